/-
  Texts of the proof, put together: GcOver, DkTC, DkRest.
-/
import Derived.Test.YtkmlnccdldmmpaaDoorG21
import Derived.Laws.MakeOwn
import Derived.BigRegion
import Derived.Test.YtkmlnccdldmmpaaDoorG13
import Derived.Test.YtkmlnccdldmmpaaDoorG18

/-
  The builder's beginning, walked.
-/
namespace Go.Proofs.YtkmlnccdldmmpaaDoor
open Go.RowKit

theorem made_list (z : Value) (n : Nat) : (madeCells #[z] n).toList = List.replicate n z := by
  unfold madeCells
  rw [Array.toList_map, Array.toList_range]
  have : (fun k : Nat => (#[z] : Array Value)[k % (#[z] : Array Value).size]!) = fun _ => z := by
    funext k
    simp [Nat.mod_one]
  rw [this, List.map_const', List.length_range]

theorem make_arm : ∀ W : World, (Instr.makeSlice 64 (.int .i64 1) (.int .i64 1)).run Tryd.prog W = .ok (.slice (some ⟨W.heap.size, 0, none⟩) 1 1) (W.alloc (.cells #[.int .i64 0, .slice none 0 0] 68)) := by
  intro W
  obtain ⟨i0, hi, hz0, hz1, hz2⟩ := info_parts Tryd.infoArmG
  have := run_make (P := Tryd.prog) W 64 68 i0 _ Tryd.underlying64 hi hz0 .i64 .i64 1 1 (by omega) (by omega) (by rw [hz2]; omega) (by omega)
  have e : madeCells (Value.agg #[.int .i64 0, .slice none 0 0]).cells 2 = #[.int .i64 0, .slice none 0 0] := by
    unfold madeCells Value.cells
    apply Array.ext'
    rw [Array.toList_map, Array.toList_range]
    rfl
  rw [this, hz1, show Int.toNat 1 * 2 = 2 from rfl, e]
  rfl
theorem make_ints (n : Nat) (hn : n ≤ 100000) : ∃ cz : Array Value, cz.toList = List.replicate n (.int .i64 0) ∧ ∀ W : World, (Instr.makeSlice 54 (.int .i64 (n : Int)) (.int .i64 (n : Int))).run Tryd.prog W = .ok (.slice (some ⟨W.heap.size, 0, none⟩) n n) (W.alloc (.cells cz 3)) := by
  refine ⟨madeCells #[.int .i64 0] n, made_list _ _, fun W => ?_⟩
  obtain ⟨i0, hi, hz0, hz1, hz2⟩ := info_parts Tryd.infoNum
  have := run_make (P := Tryd.prog) W 54 3 i0 _ Tryd.underlying54 hi hz0 .i64 .i64 n n (by omega) (by omega) (by rw [hz2]; omega) (by omega)
  rw [this, hz1]
  simp
  rfl

theorem four (w : World) (o0 o1 o2 o3 : Obj) : ((((w.alloc o0).alloc o1).alloc o2).alloc o3).drew.heap[w.heap.size]? = some o0 ∧ ((((w.alloc o0).alloc o1).alloc o2).alloc o3).drew.heap[w.heap.size + 1]? = some o1 ∧ ((((w.alloc o0).alloc o1).alloc o2).alloc o3).drew.heap[w.heap.size + 1 + 1]? = some o2 ∧ ((((w.alloc o0).alloc o1).alloc o2).alloc o3).drew.heap[w.heap.size + 1 + 1 + 1]? = some o3 ∧ Below w.heap.size w ((((w.alloc o0).alloc o1).alloc o2).alloc o3).drew := by
  have h0 := heap_alloc_new w o0
  have h1 := heap_alloc_new (w.alloc o0) o1
  have h2 := heap_alloc_new ((w.alloc o0).alloc o1) o2
  have h3 := heap_alloc_new (((w.alloc o0).alloc o1).alloc o2) o3
  simp only [World.size_alloc] at h1 h2 h3
  have k1 : ∀ {g : Nat} {o : Obj}, g < w.heap.size + 1 → (w.alloc o0).heap[g]? = some o → ((((w.alloc o0).alloc o1).alloc o2).alloc o3).heap[g]? = some o := fun hg h => by
    rw [heap_alloc_old _ _ (by simp; omega), heap_alloc_old _ _ (by simp; omega), heap_alloc_old _ _ (by simp; omega)]
    exact h
  have k2 : ∀ {g : Nat} {o : Obj}, g < w.heap.size + 2 → ((w.alloc o0).alloc o1).heap[g]? = some o → ((((w.alloc o0).alloc o1).alloc o2).alloc o3).heap[g]? = some o := fun hg h => by
    rw [heap_alloc_old _ _ (by simp; omega), heap_alloc_old _ _ (by simp; omega)]
    exact h
  exact ⟨k1 (by omega) h0, k2 (by omega) h1, (heap_alloc_old _ _ (by simp)).trans h2, h3, (((((Below.refl _ _).alloc (Nat.le_refl _) _).alloc (by simp) _).alloc (by simp; omega) _).alloc (by simp; omega) _).drew⟩

/-- A builder, new, wherever its blocks came up. -/
theorem bld_new {w w' : World} (hb : Below w.heap.size w w') {n ga go gc gb : Nat} {cz : Array Value} (hn : n ≤ 100000) (hcz : cz.toList = List.replicate n (.int .i64 0))
    (ha : w'.heap[ga]? = some (.cells #[.int .i64 0, .slice none 0 0] 68 (0, 0))) (ho : w'.heap[go]? = some (.cells #[.int .i64 0, .int .i64 0, .slice (some ⟨ga, 0, none⟩) 1 1, .bool false] 117 (0, 0)))
    (hc : w'.heap[gc]? = some (.cells cz 3 (0, 0))) (hx : w'.heap[gb]? = some (.cells #[.slice (some ⟨go, 0, none⟩) 1 1, .slice (some ⟨gc, 0, none⟩) n n] 120 (0, 0)))
    (l1 : w.heap.size ≤ ga) (l2 : w.heap.size ≤ go) (l3 : w.heap.size ≤ gc) (l4 : w.heap.size ≤ gb) (d1 : ga ≠ go) (d2 : ga ≠ gc) (d3 : ga ≠ gb) (d4 : go ≠ gc) (d5 : go ≠ gb) (d6 : gc ≠ gb) : BldS w gb 0 bs0 n w' := by
  have hsz : cz.size = n * 1 := by rw [← Array.length_toList, hcz, List.length_replicate, Nat.mul_one]
  refine ⟨fun g => if g = gb then 0 else if g = gc then 1 else if g = go then 2 else 3, [(baseFr [], ⟨0, [], [], none, 0, 0, ga, 1⟩)], go, 1, gc, List.replicate n 0, ⟨hb, l4, hx, if_pos rfl, ⟨⟨by simp [ivals], .inr ⟨gc, n, cz, rfl, l3, hc, Nat.le_refl _, by unfold maxLen; omega, hsz, ?_⟩⟩, ?_⟩, ⟨⟨rfl, .inr ⟨go, 1, _, rfl, l2, ho, Nat.le_refl _, by unfold maxLen; omega, rfl, rfl⟩⟩, ?_⟩, Nat.le_refl _, ?_⟩, rfl, ?_⟩
  · rw [hcz, List.take_of_length_le (by simp)]
    unfold ivals
    rw [List.map_replicate]
  · intro g hg
    simp only [Value.ownBlock, Option.some.injEq] at hg
    subst hg
    simp [d6]
  · intro g hg
    simp only [Value.ownBlock, Option.some.injEq] at hg
    subst hg
    simp [d4, d5]
  · intro j f x hj
    match j, hj with
    | 0, hj =>
      simp only [List.getElem?_cons_zero, Option.some.injEq, Prod.mk.injEq] at hj
      obtain ⟨rfl, rfl⟩ := hj
      refine ⟨rfl, rfl, fun h => absurd rfl h, Nat.le_refl _, Nat.le_refl _, lev_nil _ _ _ _ _ _, ⟨⟨rfl, .inr ⟨ga, 1, _, rfl, l1, ha, Nat.le_refl _, by unfold maxLen; omega, rfl, rfl⟩⟩, ?_⟩, fun q hq => by cases hq⟩
      intro g hg
      simp only [Value.ownBlock, Option.some.injEq] at hg
      subst hg
      simp [d1, d2, d3]
  · intro i z hz
    have := List.mem_replicate.1 (List.mem_of_getElem? hz)
    rw [this.2]
    rfl

def NewB (w : World) (n : Nat) (e : Ending) (w' : World) : Prop := ∃ bb, e = .returned (.pointer (some ⟨bb, 0, none⟩)) ∧ BldS w bb 0 bs0 n w'

set_option maxRecDepth 100000 in
set_option maxHeartbeats 6400000 in
theorem gover_any (n : Nat) (hn : n ≤ 100000) (w : World) : Calls Tryd.prog 47 #[.int .i64 (n : Int)] w (NewB w n) := by
  obtain ⟨cz, hcz, hmi⟩ := make_ints n hn
  have hma := make_arm
  have HZ := Lib.hid hcz
  clear hcz
  go_enter Tryd.func47, Tryd.ntmps47
  go_wp2
  go_region
  all_goals go_wp2
  all_goals go_ret
  all_goals
    obtain ⟨q0, q1, q2, q3, hb⟩ := four w _ _ _ _
    first
      | exact ⟨_, rfl, bld_new hb hn HZ.out q0 q2 q1 q3 (by omega) (by omega) (by omega) (by omega) (by omega) (by omega) (by omega) (by omega) (by omega) (by omega)⟩
      | exact ⟨_, rfl, bld_new hb hn HZ.out q1 q2 q0 q3 (by omega) (by omega) (by omega) (by omega) (by omega) (by omega) (by omega) (by omega) (by omega) (by omega)⟩
      | exact ⟨_, rfl, bld_new hb hn HZ.out q0 q1 q2 q3 (by omega) (by omega) (by omega) (by omega) (by omega) (by omega) (by omega) (by omega) (by omega) (by omega)⟩

end Go.Proofs.YtkmlnccdldmmpaaDoor

/-
  tokens.Clone, walked.
-/
namespace Go.Proofs.YtkmlnccdldmmpaaDoor
open Go.RowKit

set_option maxRecDepth 100000 in
set_option maxHeartbeats 3200000 in
theorem tclone_any {T : List Xt} {a : Option Addr} {n c : Nat} {w : World} (h : ToksX T (.slice a n c) w) (hT : T.length ≤ 500000) (hS : ∀ t ∈ T, t.ss.length ≤ 500000) :
    Calls Tryd.prog 41 #[.slice a n c] w (ToksNew w T) := by
  have hn := h.len.1
  have HN := Lib.hid hn
  have HCL := Lib.hid (cloneToks_any h hT)
  have HS := Lib.hid hS
  have hn5 : n ≤ 500000 := by omega
  clear h hn hS hT
  go_enter Tryd.func41, Tryd.ntmps41
  go_wp2_with (go_at_call 59; (with_reducible refine (HCL.out).mono ?_); rintro e w3 ⟨a3, c3, P0, rfl, h3⟩; have H3 := Lib.hid h3; clear h3)
  clear HCL
  go_loopw [9] (fun s wr => ∃ (k : Nat) (P : List (Xt × Value)), s = .int .i64 (k : Int) ∧ k ≤ n ∧ ClT w T a3 n c3 P wr) (fun s _ => n - (intOf s).toNat)
  case atStart => exact ⟨0, P0, rfl, Nat.zero_le _, H3.out⟩
  case round =>
    obtain ⟨k, P, rfl, hk, hC⟩ := hrel
    have HC := Lib.hid hC
    by_cases hlt : k < n
    · have hPl : P.length = n := by rw [HN.out, ← hC.map, List.length_map]
      obtain ⟨⟨t, sv⟩, hp⟩ : ∃ p, P[k]? = some p := ⟨_, List.getElem?_eq_getElem (by omega)⟩
      obtain ⟨sa, sn, sc, hv, -⟩ := (hC.sits _ (List.mem_of_getElem? hp)).form
      simp only at hv
      subst hv
      have hst := hC.sits _ (List.mem_of_getElem? hp)
      simp only at hst
      have htT : t ∈ T := by rw [← hC.map]; exact List.mem_map.2 ⟨_, List.mem_of_getElem? hp, rfl⟩
      obtain ⟨a4, c4, hv4, hc1, hc2, hcell⟩ := row_form hC.up.1
      simp only [Value.slice.injEq, true_and] at hv4
      obtain ⟨rfl, rfl⟩ := hv4
      have hg := fun j (hj : j < 8) => flat_get (f := xcell) (n := 8) (fun _ => rfl) P k _ hp j hj
      obtain ⟨rg, rfl, hrg, k0⟩ := hcell (k * 8 + 0) _ ((hg 0 (by omega)).trans rfl)
      have hkc : ∀ j u, j < 8 → (xcell (t, .slice sa sn sc))[j]? = some u → wr.cell? ⟨rg, k * 8 + j, none⟩ = some u := by
        intro j u hj hu
        obtain ⟨g', hg', -, e⟩ := hcell (k * 8 + j) u ((hg j hj).trans hu)
        simp only [Option.some.injEq, Addr.mk.injEq, and_true] at hg'
        rw [hg']
        exact e
      have e0 : wr.cell? ⟨rg, k * 8, none⟩ = some (.int .i64 t.k) := k0
      have e1 : wr.cell? ⟨rg, k * 8 + 1, none⟩ = some (.string t.x) := hkc 1 _ (by omega) rfl
      have e2 : wr.cell? ⟨rg, k * 8 + 2, none⟩ = some (.bool t.sp) := hkc 2 _ (by omega) rfl
      have e3 : wr.cell? ⟨rg, k * 8 + 3, none⟩ = some (.string t.g) := hkc 3 _ (by omega) rfl
      have e4 : wr.cell? ⟨rg, k * 8 + 4, none⟩ = some (.int .i64 t.f) := hkc 4 _ (by omega) rfl
      have e5 : wr.cell? ⟨rg, k * 8 + 5, none⟩ = some (.int .i64 t.t) := hkc 5 _ (by omega) rfl
      have e6 : wr.cell? ⟨rg, k * 8 + 6, none⟩ = some (.bool t.d) := hkc 6 _ (by omega) rfl
      have e7 : wr.cell? ⟨rg, k * 8 + 7, none⟩ = some (.slice sa sn sc) := hkc 7 _ (by omega) rfl
      have HE7 := Lib.hid e7
      have HFZ := Lib.hid (own_freeX hC.up.1)
      have hkI : (k : Int) < (n : Int) := by omega
      have hk0 : (0 : Int) ≤ (k : Int) := by omega
      have HP := Lib.hid hp
      have HRG := Lib.hid hrg
      have HSC : Hid (∀ X : World, Below wr.heap.size wr X → Calls Tryd.prog 60 #[.slice sa sn sc] X (SitsNew X t.ss)) := Lib.hid (fun X hX => cloneSits_any (hst.over hX) (HS.out t htT))
      unfold maxLen at hc2
      clear hC hPl hst htT hcell hg k0 hkc hp hrg
      go_wp2_with (go_at_call 60; (with_reducible refine (HSC.out _ ((Below.refl _ _).alloc (Nat.le_refl _) _)).mono ?_); rintro e w4 ⟨na, nn, nc, rfl, hs4, hb4, ho4⟩; have HB4 : Hid (Below wr.heap.size wr w4) := Lib.hid (below_up ((Below.refl wr.heap.size wr).alloc (Nat.le_refl _) _) hb4); have HS4 := Lib.hid hs4; have HO4 : Hid (OffG rg (.slice na nn nc)) := Lib.hid (ho4 rg (by have := HRG.out; simp; omega)); have q7 : w4.cell? ⟨rg, k * 8 + 7, none⟩ = some (.slice sa sn sc) := (bcell HB4.out HE7.out HRG.out); have z7 : w4.frozen? ⟨rg, k * 8 + 7, none⟩ = false := (HB4.out.frozen (p := ⟨rg, k * 8 + 7, none⟩) HRG.out).trans (HFZ.out _); clear hs4 hb4 ho4)
      have HNX := Lib.hid ((HC.out.over HB4.out).put HP.out HS4.out HO4.out)
      go_roundw
      case rel => exact ⟨k + 1, _, by go_num, hlt, HNX.out⟩
      case measure => simp [intOf]; omega
    · have hkI : ¬ (k : Int) < (n : Int) := by omega
      go_wp2
      go_ret
      exact ⟨a3, n, c3, rfl, HN.out, hC.toks, hC.up.2⟩

end Go.Proofs.YtkmlnccdldmmpaaDoor

/-
  What stands behind a directive's word: the project's and the document's.
-/
namespace Go.Proofs.YtkmlnccdldmmpaaDoor
open Go.RowKit

set_option maxRecDepth 100000 in
/-- l[2:] of tokens. -/
theorem slice2_run (g o n cap : Nat) (h2 : 2 ≤ n) (h3 : n ≤ cap) : ∃ o', (n = 2 ∨ o' = o + 16) ∧ ∀ w, (Instr.slice 22 (.slice (some ⟨g, o, none⟩) n cap) (some (.int .i64 2)) none none).run Tryd.prog w = .ok (.slice (some ⟨g, o', none⟩) (n - 2) (cap - 2)) w := by
  refine ⟨if cap = 2 then o else o + 16, ?_, fun w => ?_⟩
  · split
    · left; omega
    · right; rfl
  · have a1 : (2 : Int) ≤ (n : Int) := by omega
    have a2 : (2 : Int) ≤ (cap : Int) := by omega
    have a3 : (n : Int) ≤ (cap : Int) := by omega
    have a5 : Tryd.prog.cellsOf 36 = 8 := by kernel_rfl
    by_cases hc : cap = 2
    · obtain rfl : n = 2 := by omega
      subst hc
      simp [Instr.slice, run_underlying Tryd.underlying22, Instr.sliceBounds, run_sliceBound, Addr.add, *]
    · have hc' : (cap == 2) = false := by simpa using hc
      simp [Instr.slice, run_underlying Tryd.underlying22, Instr.sliceBounds, run_sliceBound, Addr.add, *]

theorem drop2_toks {T : List Xt} {g o o' n cap : Nat} {w : World} (h : ToksX T (.slice (some ⟨g, o, none⟩) n cap) w) (h2 : 2 ≤ n) (ho : n = 2 ∨ o' = o + 16) : ToksX (T.drop 2) (.slice (some ⟨g, o', none⟩) (n - 2) (cap - 2)) w := by
  obtain ⟨hn, hc1, hc2⟩ := h.len
  refine ⟨some ⟨g, o', none⟩, cap - 2, by rw [List.length_drop, ← hn], by rw [List.length_drop]; omega, by omega, fun k t ht => ?_⟩
  rw [List.getElem?_drop] at ht
  obtain ⟨g', o2, sa, sn, sc, ha, hg, -, hx, hs⟩ := h.get ht
  obtain ⟨rfl, rfl⟩ : g = g' ∧ o = o2 := by simpa using ha
  have hk := (List.getElem?_eq_some_iff.1 ht).1
  have e : o' = o + 16 := by
    rcases ho with h | h
    · omega
    · exact h
  refine ⟨g, o', rfl, hg, _, ?_, hs⟩
  rw [e, show o + 16 + k * 8 = o + (2 + k) * 8 from by omega]
  exact hx

theorem rest_low {T : List Xt} (h : kindL T < 2) : restL T = [] := by unfold restL; rw [if_pos h]
theorem rest_high {T : List Xt} (h : ¬ kindL T < 2) : restL T = T.drop 2 := by unfold restL; rw [if_neg h]

set_option maxRecDepth 100000 in
set_option maxHeartbeats 3200000 in
theorem rRest_any {T : List Xt} {v : Value} {w : World} (h : ToksX T v w) : Calls Tryd.prog 16 #[v] w (ToksNew w (restL T)) := by
  obtain ⟨a, n, cap, rfl⟩ := h.form
  have HX := Lib.hid h
  have HK := Lib.hid (rKind_any h)
  by_cases hk : kindL T < 2
  · have hki : ((kindL T : Nat) : Int) < 2 := by omega
    rw [rest_low hk]
    obtain ⟨K, hK⟩ : ∃ K, kindL T = K := ⟨_, rfl⟩
    rw [hK] at HK hki
    clear hk hK h
    go_enter Tryd.func16, Tryd.ntmps16
    go_wp2_with (go_at_call 13; (with_reducible refine HK.out.mono ?_); rintro e w1 ⟨rfl, hb1⟩; have HB1 := Lib.hid hb1; clear hb1)
    go_ret
    exact ⟨none, 0, 0, rfl, rfl, toksX_nil _, HB1.out⟩
  · have hl := kindL_len (T := T) (by omega)
    obtain ⟨hn, hc1, hc2⟩ := h.len
    obtain ⟨g, o, -, -, -, rfl, -⟩ := h.get (List.getElem?_eq_getElem (show 0 < T.length by omega))
    obtain ⟨o', ho, hrun⟩ := slice2_run g o n cap (by omega) hc1
    have HT := Lib.hid (drop2_toks h (by omega) ho)
    have hki : ¬ ((kindL T : Nat) : Int) < 2 := by omega
    have hk14 := kindL_le T
    rw [rest_high hk]
    obtain ⟨K, hK⟩ : ∃ K, kindL T = K := ⟨_, rfl⟩
    rw [hK] at HK hki
    have HN : Hid (n - 2 = (T.drop 2).length) := Lib.hid (by rw [List.length_drop, hn])
    clear hk hK h ho hk14 hn hl hc2
    go_enter Tryd.func16, Tryd.ntmps16
    go_wp2_with (go_at_call 13; (with_reducible refine HK.out.mono ?_); rintro e w1 ⟨rfl, hb1⟩; have HB1 := Lib.hid hb1; clear hb1)
    go_ret
    exact ⟨_, _, _, rfl, HN.out, HT.out.over HB1.out, HB1.out⟩

set_option maxRecDepth 100000 in
set_option maxHeartbeats 3200000 in
theorem rest_any {T : List Xt} {v : Value} {w : World} (h : ToksX T v w) (hW : WordsAt 0 w) (h0 : 0 < w.heap.size) (hT : T.length ≤ 500000) (hS : ∀ t ∈ T, t.ss.length ≤ 500000) : Calls Tryd.prog 15 #[v] w (ToksNew w (restL T)) := by
  obtain ⟨a, n, cap, rfl⟩ := h.form
  have HK := Lib.hid (kind_any h hW h0)
  by_cases hk : kindL T < 2
  · rw [rest_low hk]
    have hcs : kindL T = 0 ∨ kindL T = 1 := by omega
    clear h hW hk
    rcases hcs with e | e
    · rw [e] at HK
      clear e
      go_enter Tryd.func15, Tryd.ntmps15
      go_wp2_with (go_at_call 12; (with_reducible refine HK.out.mono ?_); rintro e w1 ⟨rfl, hb1⟩; have HB1 := Lib.hid hb1; clear hb1)
      go_ret
      exact ⟨none, 0, 0, rfl, rfl, toksX_nil _, HB1.out⟩
    · rw [e] at HK
      clear e
      go_enter Tryd.func15, Tryd.ntmps15
      go_wp2_with (go_at_call 12; (with_reducible refine HK.out.mono ?_); rintro e w1 ⟨rfl, hb1⟩; have HB1 := Lib.hid hb1; clear hb1)
      go_ret
      exact ⟨none, 0, 0, rfl, rfl, toksX_nil _, HB1.out⟩
  · have hl := kindL_len (T := T) (by omega)
    obtain ⟨hn, hc1, hc2⟩ := h.len
    obtain ⟨g, o, -, -, -, rfl, -⟩ := h.get (List.getElem?_eq_getElem (show 0 < T.length by omega))
    obtain ⟨o', ho, hrun⟩ := slice2_run g o n cap (by omega) hc1
    have ht := drop2_toks h (by omega) ho
    have HCL : Hid (∀ X : World, Below w.heap.size w X → Calls Tryd.prog 41 #[.slice (some ⟨g, o', none⟩) (n - 2) (cap - 2)] X (ToksNew X (T.drop 2))) := Lib.hid (fun X hX => tclone_any (ht.over hX) (by rw [List.length_drop]; omega) (fun t hm => hS t (List.mem_of_mem_drop hm)))
    have hk0 : ((kindL T : Nat) : Int) ≠ 0 := by omega
    have hk1 : ((kindL T : Nat) : Int) ≠ 1 := by omega
    rw [rest_high hk]
    obtain ⟨K, hK⟩ : ∃ K : Int, ((kindL T : Nat) : Int) = K := ⟨_, rfl⟩
    rw [hK] at HK hk0 hk1
    have hb0 : (K == 0) = false := by simpa using hk0
    have hb1 : (K == 1) = false := by simpa using hk1
    clear hk hK h hW ho ht hn hl hc2 hS hT hk0 hk1
    go_enter Tryd.func15, Tryd.ntmps15
    go_wp2_with (first
      | (go_at_call 12; (with_reducible refine HK.out.mono ?_); rintro e w1 ⟨rfl, hb1⟩; have HB1 := Lib.hid hb1; clear hb1)
      | (go_at_call 41; (with_reducible refine (HCL.out _ HB1.out).mono ?_); rintro e w2 ⟨ra, rn, rc, rfl, hrn, ht2, hb2⟩; have HT2 := Lib.hid ht2; have HB2 := Lib.hid hb2; have HRN := Lib.hid hrn; clear ht2 hb2 hrn))
    go_ret
    exact ⟨ra, rn, rc, rfl, HRN.out, HT2.out, below_up HB1.out HB2.out⟩

end Go.Proofs.YtkmlnccdldmmpaaDoor
