/-
  Texts of the proof, put together: McPw.
-/
import Derived.Test.YtmghocfkekggaaaG23

/-
  Parse, walked.
-/
namespace Go.Proofs.Ytmghocfkekggaaa
open Go.RowKit Go.Maps

set_option maxRecDepth 100000 in
set_option maxHeartbeats 6400000 in
theorem parse_nil (a : Option Addr) (cap : Nat) (W : World) : Calls Try.prog 19 #[.slice a 0 cap] W (RefusedAt W ⟨4, ⟨#[]⟩, 0, 0⟩) := by
  have HREF : Hid (∀ X : World, Calls Try.prog 35 #[.int .i64 4, .agg #[.string ⟨#[]⟩, .int .i64 0, .int .i64 0]] X (RefusedAt X (⟨4, ⟨#[]⟩, 0, 0⟩))) := Lib.hid (fun X => refuse_any (⟨4, ⟨#[]⟩, 0, 0⟩) X)
  go_enter Try.func19, Try.ntmps19
  go_wp2_with fail
  have hB0 : Below W.heap.size W (W.alloc (Obj.cells #[.string ⟨#[]⟩, .bool false, .bool false, .slice none 0 0, .slice none 0 0, .string ⟨#[]⟩, .int .i64 0, .int .i64 0] 38)) := (Below.refl _ _).alloc (Nat.le_refl _) _
  have hQ0 : (W.alloc (Obj.cells #[.string ⟨#[]⟩, .bool false, .bool false, .slice none 0 0, .slice none 0 0, .string ⟨#[]⟩, .int .i64 0, .int .i64 0] 38)).heap[W.heap.size]? = some zeroObj := heap_alloc_new W (Obj.cells #[.string ⟨#[]⟩, .bool false, .bool false, .slice none 0 0, .slice none 0 0, .string ⟨#[]⟩, .int .i64 0, .int .i64 0] 38)
  have hS0 : (W.alloc (Obj.cells #[.string ⟨#[]⟩, .bool false, .bool false, .slice none 0 0, .slice none 0 0, .string ⟨#[]⟩, .int .i64 0, .int .i64 0] 38)).heap.size = W.heap.size + 1 := by simp
  obtain ⟨w1, hw1⟩ : ∃ w1, W.alloc (Obj.cells #[.string ⟨#[]⟩, .bool false, .bool false, .slice none 0 0, .slice none 0 0, .string ⟨#[]⟩, .int .i64 0, .int .i64 0] 38) = w1 := ⟨_, rfl⟩
  obtain ⟨qb, hqb⟩ : ∃ qb, W.heap.size = qb := ⟨_, rfl⟩
  rw [hw1] at hB0 hQ0 hS0 ⊢
  have HQL : Hid (W.heap.size ≤ qb) := Lib.hid (by omega)
  rw [hqb] at hQ0 hS0 ⊢
  have HB0 := Lib.hid hB0
  have HQ0 := Lib.hid hQ0
  have HSQ : Hid (qb < w1.heap.size) := Lib.hid (by omega)
  clear hw1 hqb hB0 hQ0 hS0
  (with_reducible refine (HREF.out _).mono ?_)
  rintro e w9 ⟨gb, rfl, hb9, hge, hlt, x0, x1, x2, x3⟩
  have HZ9 := Lib.hid ((hb9.block qb (HSQ.out)).trans (HQ0.out))
  (obtain ⟨z0, z1, z2, z3, z4, z5, z6, z7, zf⟩ := zero_cells HZ9.out)
  have f0 := zf 0
  have f1 := zf 1
  have f2 := zf 2
  have f3 := zf 3
  have f4 := zf 4
  have f5 := zf 5
  have f6 := zf 6
  have f7 := zf 7
  have HF9 : Hid (RefW W qb gb (⟨4, ⟨#[]⟩, 0, 0⟩) w9) := Lib.hid ⟨below_up (HB0.out) hb9, HQL.out, Nat.le_trans (HB0.out).size hge, Nat.ne_of_gt (Nat.lt_of_lt_of_le HSQ.out hge), hlt, x0, x1, x2, x3⟩
  clear hb9 hge hlt x0 x1 x2 x3 zf
  go_wp2
  obtain ⟨w10, hw10, y0, y1, y2, y3, y4, y5, y6, y7, HF10⟩ := ref_end HF9.out HZ9.out
  change bodyPost _ _ _ _ _ (sto8 w9 qb (.string ⟨#[]⟩) (.bool false) (.bool false) (.slice none 0 0) (.slice none 0 0) (.string ⟨#[]⟩) (.int .i64 0) (.int .i64 0))
  rw [hw10]
  exact bodyPost_ret (v := .tuple #[.agg #[.string ⟨#[]⟩, .bool false, .bool false, .slice none 0 0, .slice none 0 0, .string ⟨#[]⟩, .int .i64 0, .int .i64 0], .slice (some ⟨gb, 0, none⟩) 1 1]) (by simp [results, Try.results19, go_sem, y0, y1, y2, y3, y4, y5, y6, y7]) rfl HF10.out.end

set_option maxRecDepth 100000 in
set_option maxHeartbeats 6400000 in
theorem parse_kind_any {t : Xt} {r : List Xt} {a : Option Addr} {n cap : Nat} {W : World} (h : ToksX (t :: r) (.slice a n cap) W) (hk : t.k ≠ 1) : Calls Try.prog 19 #[.slice a n cap] W (RefusedAt W (illOf 4 t)) := by
  obtain ⟨hn, hc1, hc2⟩ := h.len
  simp only [List.length_cons] at hn
  unfold maxLen at hc2
  obtain ⟨g, o, sa, sn, sc, rfl, hg, -, hx, -⟩ := h.get (k := 0) (t := t) rfl
  rw [Nat.zero_mul, Nat.add_zero] at hx
  obtain ⟨o', ho, hrun⟩ := slice1_run g o n cap (by omega) hc1
  have HTR := Lib.hid (drop1_toks h ho)
  obtain ⟨c0, c1, c2, c3, c4, c5, c6, c7⟩ := hx
  have hne : ((n : Int) == 0) = false := by simp; omega
  have hn0 : (0 : Int) < (n : Int) := by omega
  have HG := Lib.hid hg
  have hk' : (t.k != 1) = true := by simp [hk]
  have HREF : Hid (∀ X : World, Calls Try.prog 35 #[.int .i64 4, .agg #[.string t.g, .int .i64 t.f, .int .i64 t.t]] X (RefusedAt X (illOf 4 t))) := Lib.hid (fun X => refuse_any (illOf 4 t) X)
  clear h hk hn ho
  go_enter Try.func19, Try.ntmps19
  go_wp2_with fail
  have hB0 : Below W.heap.size W (W.alloc (Obj.cells #[.string ⟨#[]⟩, .bool false, .bool false, .slice none 0 0, .slice none 0 0, .string ⟨#[]⟩, .int .i64 0, .int .i64 0] 38)) := (Below.refl _ _).alloc (Nat.le_refl _) _
  have hQ0 : (W.alloc (Obj.cells #[.string ⟨#[]⟩, .bool false, .bool false, .slice none 0 0, .slice none 0 0, .string ⟨#[]⟩, .int .i64 0, .int .i64 0] 38)).heap[W.heap.size]? = some zeroObj := heap_alloc_new W (Obj.cells #[.string ⟨#[]⟩, .bool false, .bool false, .slice none 0 0, .slice none 0 0, .string ⟨#[]⟩, .int .i64 0, .int .i64 0] 38)
  have hS0 : (W.alloc (Obj.cells #[.string ⟨#[]⟩, .bool false, .bool false, .slice none 0 0, .slice none 0 0, .string ⟨#[]⟩, .int .i64 0, .int .i64 0] 38)).heap.size = W.heap.size + 1 := by simp
  obtain ⟨w1, hw1⟩ : ∃ w1, W.alloc (Obj.cells #[.string ⟨#[]⟩, .bool false, .bool false, .slice none 0 0, .slice none 0 0, .string ⟨#[]⟩, .int .i64 0, .int .i64 0] 38) = w1 := ⟨_, rfl⟩
  obtain ⟨qb, hqb⟩ : ∃ qb, W.heap.size = qb := ⟨_, rfl⟩
  rw [hw1] at hB0 hQ0 hS0 ⊢
  have HQL : Hid (W.heap.size ≤ qb) := Lib.hid (by omega)
  rw [hqb] at hQ0 hS0 ⊢
  have HB0 := Lib.hid hB0
  have HQ0 := Lib.hid hQ0
  have HSQ : Hid (qb < w1.heap.size) := Lib.hid (by omega)
  clear hw1 hqb hB0 hQ0 hS0
  (with_reducible refine (HREF.out _).mono ?_)
  rintro e w9 ⟨gb, rfl, hb9, hge, hlt, x0, x1, x2, x3⟩
  have HZ9 := Lib.hid ((hb9.block qb (HSQ.out)).trans (HQ0.out))
  (obtain ⟨z0, z1, z2, z3, z4, z5, z6, z7, zf⟩ := zero_cells HZ9.out)
  have f0 := zf 0
  have f1 := zf 1
  have f2 := zf 2
  have f3 := zf 3
  have f4 := zf 4
  have f5 := zf 5
  have f6 := zf 6
  have f7 := zf 7
  have HF9 : Hid (RefW W qb gb (illOf 4 t) w9) := Lib.hid ⟨below_up (HB0.out) hb9, HQL.out, Nat.le_trans (HB0.out).size hge, Nat.ne_of_gt (Nat.lt_of_lt_of_le HSQ.out hge), hlt, x0, x1, x2, x3⟩
  clear hb9 hge hlt x0 x1 x2 x3 zf
  go_wp2
  obtain ⟨w10, hw10, y0, y1, y2, y3, y4, y5, y6, y7, HF10⟩ := ref_end HF9.out HZ9.out
  change bodyPost _ _ _ _ _ (sto8 w9 qb (.string ⟨#[]⟩) (.bool false) (.bool false) (.slice none 0 0) (.slice none 0 0) (.string ⟨#[]⟩) (.int .i64 0) (.int .i64 0))
  rw [hw10]
  exact bodyPost_ret (v := .tuple #[.agg #[.string ⟨#[]⟩, .bool false, .bool false, .slice none 0 0, .slice none 0 0, .string ⟨#[]⟩, .int .i64 0, .int .i64 0], .slice (some ⟨gb, 0, none⟩) 1 1]) (by simp [results, Try.results19, go_sem, y0, y1, y2, y3, y4, y5, y6, y7]) rfl HF10.out.end

set_option maxRecDepth 100000 in
set_option maxHeartbeats 6400000 in
theorem parse_res_any {t : Xt} {r : List Xt} {a : Option Addr} {n cap : Nat} {W : World} (h : ToksX (t :: r) (.slice a n cap) W) (hk : t.k = 1) (hr : resB t.x = true) : Calls Try.prog 19 #[.slice a n cap] W (RefusedAt W (illOf 5 t)) := by
  obtain ⟨hn, hc1, hc2⟩ := h.len
  simp only [List.length_cons] at hn
  unfold maxLen at hc2
  obtain ⟨g, o, sa, sn, sc, rfl, hg, -, hx, -⟩ := h.get (k := 0) (t := t) rfl
  rw [Nat.zero_mul, Nat.add_zero] at hx
  obtain ⟨o', ho, hrun⟩ := slice1_run g o n cap (by omega) hc1
  have HTR := Lib.hid (drop1_toks h ho)
  obtain ⟨c0, c1, c2, c3, c4, c5, c6, c7⟩ := hx
  have hne : ((n : Int) == 0) = false := by simp; omega
  have hn0 : (0 : Int) < (n : Int) := by omega
  have HG := Lib.hid hg
  have hk' : (t.k != 1) = false := by simp [hk]
  have HRS : Hid (∀ X : World, Calls Try.prog 36 #[.string t.x] X fun e w' => e = .returned (.bool true) ∧ X = w') := Lib.hid (fun X => hr ▸ reserved_any t.x X)
  have HREF : Hid (∀ X : World, Calls Try.prog 35 #[.int .i64 5, .agg #[.string t.g, .int .i64 t.f, .int .i64 t.t]] X (RefusedAt X (illOf 5 t))) := Lib.hid (fun X => refuse_any (illOf 5 t) X)
  clear h hk hn ho hr
  go_enter Try.func19, Try.ntmps19
  go_wp2_with (go_at_call 36; (with_reducible refine (HRS.out _).mono ?_); rintro e w0 ⟨rfl, rfl⟩)
  have hB0 : Below W.heap.size W (W.alloc (Obj.cells #[.string ⟨#[]⟩, .bool false, .bool false, .slice none 0 0, .slice none 0 0, .string ⟨#[]⟩, .int .i64 0, .int .i64 0] 38)) := (Below.refl _ _).alloc (Nat.le_refl _) _
  have hQ0 : (W.alloc (Obj.cells #[.string ⟨#[]⟩, .bool false, .bool false, .slice none 0 0, .slice none 0 0, .string ⟨#[]⟩, .int .i64 0, .int .i64 0] 38)).heap[W.heap.size]? = some zeroObj := heap_alloc_new W (Obj.cells #[.string ⟨#[]⟩, .bool false, .bool false, .slice none 0 0, .slice none 0 0, .string ⟨#[]⟩, .int .i64 0, .int .i64 0] 38)
  have hS0 : (W.alloc (Obj.cells #[.string ⟨#[]⟩, .bool false, .bool false, .slice none 0 0, .slice none 0 0, .string ⟨#[]⟩, .int .i64 0, .int .i64 0] 38)).heap.size = W.heap.size + 1 := by simp
  obtain ⟨w1, hw1⟩ : ∃ w1, W.alloc (Obj.cells #[.string ⟨#[]⟩, .bool false, .bool false, .slice none 0 0, .slice none 0 0, .string ⟨#[]⟩, .int .i64 0, .int .i64 0] 38) = w1 := ⟨_, rfl⟩
  obtain ⟨qb, hqb⟩ : ∃ qb, W.heap.size = qb := ⟨_, rfl⟩
  rw [hw1] at hB0 hQ0 hS0 ⊢
  have HQL : Hid (W.heap.size ≤ qb) := Lib.hid (by omega)
  rw [hqb] at hQ0 hS0 ⊢
  have HB0 := Lib.hid hB0
  have HQ0 := Lib.hid hQ0
  have HSQ : Hid (qb < w1.heap.size) := Lib.hid (by omega)
  clear hw1 hqb hB0 hQ0 hS0
  (with_reducible refine (HREF.out _).mono ?_)
  rintro e w9 ⟨gb, rfl, hb9, hge, hlt, x0, x1, x2, x3⟩
  have HZ9 := Lib.hid ((hb9.block qb (HSQ.out)).trans (HQ0.out))
  (obtain ⟨z0, z1, z2, z3, z4, z5, z6, z7, zf⟩ := zero_cells HZ9.out)
  have f0 := zf 0
  have f1 := zf 1
  have f2 := zf 2
  have f3 := zf 3
  have f4 := zf 4
  have f5 := zf 5
  have f6 := zf 6
  have f7 := zf 7
  have HF9 : Hid (RefW W qb gb (illOf 5 t) w9) := Lib.hid ⟨below_up (HB0.out) hb9, HQL.out, Nat.le_trans (HB0.out).size hge, Nat.ne_of_gt (Nat.lt_of_lt_of_le HSQ.out hge), hlt, x0, x1, x2, x3⟩
  clear hb9 hge hlt x0 x1 x2 x3 zf
  go_wp2
  obtain ⟨w10, hw10, y0, y1, y2, y3, y4, y5, y6, y7, HF10⟩ := ref_end HF9.out HZ9.out
  change bodyPost _ _ _ _ _ (sto8 w9 qb (.string ⟨#[]⟩) (.bool false) (.bool false) (.slice none 0 0) (.slice none 0 0) (.string ⟨#[]⟩) (.int .i64 0) (.int .i64 0))
  rw [hw10]
  exact bodyPost_ret (v := .tuple #[.agg #[.string ⟨#[]⟩, .bool false, .bool false, .slice none 0 0, .slice none 0 0, .string ⟨#[]⟩, .int .i64 0, .int .i64 0], .slice (some ⟨gb, 0, none⟩) 1 1]) (by simp [results, Try.results19, go_sem, y0, y1, y2, y3, y4, y5, y6, y7]) rfl HF10.out.end

end Go.Proofs.Ytmghocfkekggaaa
