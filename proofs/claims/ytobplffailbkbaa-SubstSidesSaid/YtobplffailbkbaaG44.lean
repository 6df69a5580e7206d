/-
  Texts of the proof, put together: SuMd, SuPv.
-/
import Derived.Test.YtobplffailbkbaaG43
import Derived.Test.YtobplffailbkbaaG40
import Derived.Test.YtobplffailbkbaaG37

/-
  What the laws of subst use of their own: a macro as the program's, two rows of yes and no.
-/
namespace Go.Proofs.Ytobplffailbkbaa
open Go.RowKit Go.Maps

def SameM11 (w : World) (m : Xm) (pv bv : Value) (e : Ending) (w' : World) : Prop := e = .returned (macV m pv bv) ∧ Below w.heap.size w w'
theorem two_box11 (w : World) (o : Obj) (m : Xm) (pv bv : Value) (T : TypeId) : BoxM m pv bv (w.heap.size + 1) ((w.alloc o).alloc (.cells #[.string m.n, .bool m.fn, .bool m.va, pv, bv, .string m.g, .int .i64 m.f, .int .i64 m.t] T)) := by
  have h0 := heap_alloc_new (w.alloc o) (.cells #[.string m.n, .bool m.fn, .bool m.va, pv, bv, .string m.g, .int .i64 m.f, .int .i64 m.t] T)
  rw [show (w.alloc o).heap.size = w.heap.size + 1 from by simp] at h0
  refine ⟨?_, ?_, ?_, ?_, ?_, ?_, ?_, ?_⟩ <;> (rw [Lib.cell_of_heap h0]; rfl)

set_option maxRecDepth 100000 in
theorem made11_any {m : Xm} {pv bv : Value} {w : World} (h : MacAt m pv bv w) : Calls Try.prog 15 #[macV m pv bv] w (SameM11 w m pv bv) := by
  obtain ⟨a1, n1, c1, rfl⟩ := h.1.form
  obtain ⟨a2, n2, c2, rfl⟩ := h.2.form
  unfold SameM11 macV
  clear h
  obtain ⟨y0, y1, y2, y3, y4, y5, y6, y7⟩ := two_box11 w (.cells #[.string m.n, .bool m.fn, .bool m.va, .slice a1 n1 c1, .slice a2 n2 c2, .string m.g, .int .i64 m.f, .int .i64 m.t] 38) m (.slice a1 n1 c1) (.slice a2 n2 c2) 45
  go_enter Try.func15, Try.ntmps15
  go_wp2
  exact bodyPost_ret (v := .agg #[.string m.n, .bool m.fn, .bool m.va, .slice a1 n1 c1, .slice a2 n2 c2, .string m.g, .int .i64 m.f, .int .i64 m.t]) (by simp [results, Try.results15, go_sem, y0, y1, y2, y3, y4, y5, y6, y7]) rfl ⟨rfl, ((Below.refl _ _).alloc (Nat.le_refl _) _).alloc (by simp) _⟩

set_option maxRecDepth 100000 in
set_option maxHeartbeats 3200000 in
theorem same11_yes {L : List Bool} {g g' n c c' : Nat} {w : World} (h : Bools w g L) (h' : Bools w g' L) (hn : n = L.length) (hc : n ≤ c ∧ c ≤ 1000000) (hc' : n ≤ c' ∧ c' ≤ 1000000) : Calls Try.prog 20 #[.slice (some ⟨g, 0, none⟩) n c, .slice (some ⟨g', 0, none⟩) n c'] w (TruePost w) := by
  have H := Lib.hid h
  have H' := Lib.hid h'
  have HN := Lib.hid hn
  obtain ⟨k1, k2⟩ := hc
  obtain ⟨k3, k4⟩ := hc'
  clear h h' hn
  go_enter Try.func20, Try.ntmps20
  go_wp2
  go_loopw [5] (fun v wr => ∃ k q : Nat, v = .int .i64 (k : Int) ∧ k ≤ n ∧ wr = w.drewN q) (fun v _ => n - (intOf v).toNat)
  case atStart => exact ⟨0, 0, rfl, Nat.zero_le _, rfl⟩
  case round =>
    obtain ⟨k, q, rfl, hk, rfl⟩ := hrel
    by_cases hlt : k < n
    · obtain ⟨b, hb⟩ : ∃ b, L[k]? = some b := ⟨_, List.getElem?_eq_getElem (by rw [← HN.out]; exact hlt)⟩
      obtain ⟨x0, -⟩ := H.out.at hb
      obtain ⟨x1, -⟩ := H'.out.at hb
      have hkI : (k : Int) < (n : Int) := by omega
      have hk0 : (0 : Int) ≤ (k : Int) := by omega
      have hbb : (b != b) = false := by simp
      clear hb
      go_wp2
      go_quiet (fail)
      go_wp2
      go_roundw
      case rel => exact ⟨k + 1, _, by go_num, hlt, rfl⟩
      case measure => simp [intOf]; omega
    · have hkI : ¬ (k : Int) < (n : Int) := by omega
      go_wp2
      go_ret
      exact ⟨rfl, Below.of_drews _ _⟩

end Go.Proofs.Ytobplffailbkbaa

/-
  The next part behind a paste that makes no token: the project's put.
-/
namespace Go.Proofs.Ytobplffailbkbaa
open Go.RowKit Go.Maps

theorem src_dg {w : World} {g : Nat} {d : Ill} (h : w.heap[g]? = some (.cells #[.int .i64 d.c, .string d.g, .int .i64 d.f, .int .i64 d.t] 50)) : Src w (.slice (some ⟨g, 0, none⟩) 1 1) 1 4 (illCell d) := by
  refine .inr ⟨_, 1, rfl, rfl, fun j u hj => ?_⟩
  rw [addr_add, Lib.cell_of_heap h]
  match j, hj with
  | 0, hj => exact hj
  | 1, hj => exact hj
  | 2, hj => exact hj
  | 3, hj => exact hj
theorem ill_cat (D : List Ill) (d : Ill) : (D ++ [d]).flatMap illCell = D.flatMap illCell ++ illCell d := by simp
theorem DR.app {V : World} {D : List Ill} {a : Option Addr} {c : Nat} {w : World} {ty : TypeId} (h : DR V D a c w) (hV : V.heap.size ≤ w.heap.size) {d : Ill} {v : Value} (hsrc : Src w v 1 4 (illCell d)) (hn : D.length + 1 ≤ 1000000) :
    ∃ a' n' c' w', (Builtin.append_ #[39, 39] ty #[.slice a D.length c, v]).run Try.prog w = .ok (.slice a' n' c') w' ∧ n' = (D ++ [d]).length ∧ DR V (D ++ [d]) a' c' w' ∧ w.grownBy w' (Value.slice a D.length c).ownBlock := by
  obtain ⟨i0, hi, hz0, hz1, hz2⟩ := info_parts Try.infoDiagR
  obtain ⟨v', w', hr, h2, h3⟩ := run_app (ty := ty) Try.underlying39 hi hz0 hz1 hz2 rfl (by decide) (by decide) h hsrc (fun u hu => by
    simp only [illCell, List.mem_cons, List.not_mem_nil, or_false] at hu
    rcases hu with rfl | rfl | rfl | rfl <;> rfl) hn hV
  obtain ⟨a', c', rfl, -⟩ := row_form h2
  refine ⟨a', _, c', w', hr, by simp, ?_, h3⟩
  unfold DR
  rw [ill_cat, List.length_append]
  exact h2
/-- One more diagnostic. -/
theorem RW.dg {V : World} {r : Nat} {S : Rw} {ta : Option Addr} {tc : Nat} {fa : Option Addr} {fc : Nat} {da : Option Addr} {dc : Nat} {xa : Option Addr} {xc : Nat} {w : World} {ty : TypeId} (h : RW V r S ta tc fa fc da dc xa xc w) {d : Ill} {v : Value} (hsrc : Src w v 1 4 (illCell d)) (hn : S.D.length + 1 ≤ 1000000) :
    ∃ a' n' c' w', (Builtin.append_ #[39, 39] ty #[.slice da S.D.length dc, v]).run Try.prog w = .ok (.slice a' n' c') w' ∧ w'.heap[r]? = w.heap[r]? ∧ (∀ e, e ≠ 50 → ∀ q, KindAt w q e → w'.heap[q]? = w.heap[q]?) ∧ RW V r { S with D := S.D ++ [d] } ta tc fa fc a' c' xa xc (w'.setCell ⟨r, 2, none⟩ (.slice a' n' c')) := by
  obtain ⟨a', n', c', w', hr, hn', hD, hg⟩ := h.dgs.app (ty := ty) h.low.size hsrc hn
  refine ⟨a', n', c', w', hr, ?_⟩
  subst hn'
  have hown : ∀ k, (Value.slice da S.D.length dc).ownBlock = some k → V.heap.size ≤ k ∧ KindAt w k 50 := fun k hk => row_kind h.dgs k (own_blk hk h.dgs)
  have kb : ∀ {q : Nat} {e : TypeId}, KindAt w q e → e ≠ 50 → w'.heap[q]? = w.heap[q]? := fun hq he => hg.block _ hq.lt fun e' => hq.ne (hown _ e'.symm).2 he rfl
  have hrk : KindAt w r 79 := ⟨_, _, h.obj⟩
  have ho1 := (kb hrk (by decide)).trans h.obj
  have hst : StillB (Deep V r) w w' := StillB.of_grown hg fun q hq e => by
    have := (hown q e.symm).1
    have := hq.1
    omega
  have hst2 := StillB.of_grown (P := Deep V r) (grown_setS w' r 2 (.slice a' (S.D ++ [d]).length c')) fun q hq e => hq.2 (Option.some.inj e)
  have far : ∀ {q : Nat}, q ≠ r → (w'.setCell ⟨r, 2, none⟩ (.slice a' (S.D ++ [d]).length c')).heap[q]? = w'.heap[q]? := fun hq => heap_setCell_other _ _ _ _ hq
  unfold rowObj at ho1
  refine ⟨kb hrk (by decide), fun e he q hq => kb hq he, h.lt, (row_set ho1 2 _).trans rfl, (grown_low h.low hg fun k hk => (hown k hk).1).trans (grown_setS _ _ _ _), (h.toks.keep (fun q e => kb (h.toks.kind q e).2 (by decide)) hst).keep (fun q e => far (h.away (.inl rfl) q e)) hst2, (h.frm.keep fun q e => kb (row_kind h.frm q e).2 (by decide)).keep fun q e => far (h.away (.inr (.inl rfl)) q e), hD.keep fun q e => far fun e2 => ?_, (h.txt.keep fun q e => kb (h.txt.home q e).2 (by decide)).keep fun q e => far (h.away (.inr (.inr (.inr rfl))) q e), h.ne, h.same⟩
  have := (row_kind hD q e).1
  have := h.lt
  omega
def Sr (r : Nat) (o : Option Obj) (w : World) : Prop := w.heap[r]? = o
theorem Sr.open {r : Nat} {X w : World} (h : Sr r X.heap[r]? w) : ∀ j, w.cell? ⟨r, j, none⟩ = X.cell? ⟨r, j, none⟩ := fun _ => World.cell?_of_block h

set_option linter.unusedSimpArgs false in
set_option maxRecDepth 100000 in
set_option maxHeartbeats 6400000 in
theorem put_stay {V : World} {r : Nat} {S : Rw} {ta : Option Addr} {tc : Nat} {fa : Option Addr} {fc : Nat} {da : Option Addr} {dc : Nat} {xa : Option Addr} {xc : Nat} {w : World} (h : RW V r S ta tc fa fc da dc xa xc w) (q : Pt) (sa : Option Addr) (sc : Nat) (hT : HeldIn (Deep V r) V (ToksX q.T (.slice sa q.T.length sc))) (hfit : PutFit S q) (hq : q.p = false) (hs : S.p = true) (ha : S.a < S.T.length) {t : Xt} {s : List Xt} (hqt : q.T = t :: s) {S' : Rw} (hgr : growR S t = (false, S')) (hdl : S'.D.length + 1 ≤ 1000000) :
    Calls Try.prog 32 #[.pointer (some ⟨r, 0, none⟩), ptV q (.slice sa q.T.length sc)] w (AddPost V r (putL S q)) := by
  have htx := hfit.news t (by rw [hqt]; exact List.mem_cons_self)
  obtain ⟨⟨n1, n2⟩, -⟩ := grow_keep S t hfit.text hfit.lens htx
  rw [hgr] at n1 n2
  simp only at n1 n2
  have hfk := hfit.toks
  rw [hqt, List.length_cons] at hfk
  have hT0 := hT
  have hqp := hq
  rw [hqt] at hT0
  obtain ⟨g, o, sv, rfl, hg, hgr2, htk, hsv⟩ := held_tok (k := 0) hT0 rfl
  have hbox := boxPt_new w q (.slice (some ⟨g, o, none⟩) q.T.length sc)
  have hb1 := (Below.refl w.heap.size w).alloc (Nat.le_refl _) (ptObj q (.slice (some ⟨g, o, none⟩) q.T.length sc))
  have hR := h.over hb1
  have hVb := h.low.size
  have hbr : r ≠ w.heap.size := by
    have := row_lt h.obj
    omega
  obtain ⟨-, d1, d2, d3, d4⟩ := grow_keep S t hfit.text hfit.lens htx
  rw [hgr] at d1 d2 d3 d4
  simp only at d1 d2 d3 d4
  have hAD := fun (ta' : Option Addr) (tc' : Nat) (fa' : Option Addr) (fc' : Nat) (da' : Option Addr) (dc' : Nat) (xa' : Option Addr) (xc' : Nat) (X : World) (hX : RW V r { S' with D := S'.D ++ [⟨10, S'.g, S'.f, S'.t⟩], p := false } ta' tc' fa' fc' da' dc' xa' xc' X) => add_any hX q (some ⟨g, o, none⟩) sc hT ⟨by show S'.x.length ≤ _; omega, by show S'.T.length + q.T.length ≤ _; rw [n1, hqt, List.length_cons]; omega⟩
  rw [show addL q.o q.T ({ S' with D := S'.D ++ [⟨10, S'.g, S'.f, S'.t⟩], p := false } : Rw) = putL S q from by rw [putL_stay hq hs ha hqt hgr, d1, d2, d3, d4]] at hAD
  have hne : S.T ≠ [] := fun e => by
    rw [e] at ha
    simp at ha
  have hstl := StillB.of_grown (P := Deep V r) hR.low fun g hg e => hg.2 (Option.some.inj e)
  obtain ⟨e0, e1, e2, e3, e4, e5, e6, e7⟩ := htk _ hstl
  obtain ⟨aa, ca, hsl, -⟩ := hsv _ hstl
  subst hsl
  have hGR := fun (k : Nat) => grow_any (hR.over (Below.of_drews _ k)) ⟨by omega, by have := hfit.text; omega⟩ t aa t.ss.length ca hne htx ⟨hfit.lens, hfit.text⟩
  rw [hgr] at hGR
  unfold ptV at hAD ⊢
  unfold ptObj at hbox hR hGR e0 e1 e2 e3 e4 e5 e6 e7
  rw [hq] at hbox hR hAD hGR e0 e1 e2 e3 e4 e5 e6 e7 ⊢
  obtain ⟨n, hn⟩ : ∃ n, q.T.length = n := ⟨_, rfl⟩
  have hns : n = s.length + 1 := by rw [← hn, hqt]; rfl
  rw [hn] at hbox hR hGR hAD e0 e1 e2 e3 e4 e5 e6 e7 ⊢
  obtain ⟨b0, hb0⟩ : ∃ b0, w.heap.size = b0 := ⟨_, rfl⟩
  rw [hb0] at hbox hbr hVb
  simp only [Nat.zero_mul, Nat.add_zero] at e0 e1 e2 e3 e4 e5 e6 e7
  obtain ⟨k0, k1, k2, k3, k4, k5, kf⟩ := boxPt (q := ⟨false, q.g, q.f, q.t, q.T, q.o⟩) hbox
  obtain ⟨c0, -, -, c3, c4, -, -, -, -, cf⟩ := hR.cells
  rw [hs] at c4
  have hrb := Ne.symm hbr
  have HAD := Lib.hid hAD
  have HGR := Lib.hid hGR
  have HBX := Lib.hid hbox
  have HVB := Lib.hid hVb
  have haI : (S.a : Int) < (S.T.length : Int) := by omega
  have hnI : (0 : Int) < (n : Int) := by omega
  have hsl1 : (1 : Nat) ≤ n := by omega
  clear d1 d2 d3 d4 h hq hqp hR hT hT0 hfit hAD hGR hgr hgr2 htk hsv hstl hbox hqt ha hne htx hb1 hns hn
  unfold GrowPost at HGR
  go_enter Try.func32, Try.ntmps32
  go_wp2
  go_quiet (fail)
  go_wp2_with (go_at_call 53; (with_reducible refine (HGR.out _).mono ?_); rintro e w2 ⟨rfl, ta2, tc2, fa2, fc2, da2, dc2, xa2, xc2, hR2, hfr2⟩; have HR2 := Lib.hid hR2; have HB2 := Lib.hid ((hfr2 b0 ⟨_, _, HBX.out⟩).trans HBX.out); clear hR2 hfr2 k0 k1 k2 k3 k4 k5 kf)
  obtain ⟨-, -, m2, -, -, m5, m6, m7, -, -⟩ := HR2.out.cells
  have HC2 := Lib.hid m2
  have HC5 := Lib.hid m5
  have HC6 := Lib.hid m6
  have HC7 := Lib.hid m7
  clear m2 m5 m6 m7 e0 e1 e2 e3 e4 e5 e6 e7 c0 c3 c4 cf
  have HSW : Sr r w2.heap[r]? w2.drew := rfl
  have hRd := HR2.out.over (Below.refl _ _).drew
  have hBd : w2.drew.heap[b0]? = some (ptObj ⟨false, q.g, q.f, q.t, q.T, q.o⟩ (.slice (some ⟨g, o, none⟩) n sc)) := HB2.out
  obtain ⟨Y0, hwd⟩ : ∃ Y, w2.drew = Y := ⟨_, rfl⟩
  rw [hwd] at HSW hRd hBd
  have HRD := Lib.hid hRd
  have HBD := Lib.hid hBd
  refine region_anyT (S := Sr r w2.heap[r]?) 14 (by kernel_rfl) ?_
  rw [hwd]
  clear hwd hRd hBd
  refine anyT_takeD 0 [12, 13, 14] 56 (v := ?_) rfl rfl (by kernel_rfl) (fun _ _ _ h => h) (Or.inl ⟨by kernel_rfl, ?_⟩) HSW ?_
  rotate_left
  · (intro w hSw; clear hSw; go_simp; (try with_reducible rfl))
  (try simp only [Act.put]); (try simp only [List.setIfInBounds_toArray]); (try simp only [List.set_cons_succ]); (try simp only [List.set_cons_zero])
  refine anyT_takeD 1 [2, 3, 4, 11, 12, 13, 14] 57 (v := ?_) rfl rfl (by kernel_rfl) (fun _ _ _ h => h) (Or.inl ⟨by kernel_rfl, ?_⟩) HSW ?_
  rotate_left
  · (intro w hSw; clear hSw; go_simp; (try with_reducible rfl))
  (try simp only [Act.put]); (try simp only [List.setIfInBounds_toArray]); (try simp only [List.set_cons_succ]); (try simp only [List.set_cons_zero])
  refine anyT_takeD 2 [3, 4, 11, 12, 13, 14] 58 (v := ?_) rfl rfl (by kernel_rfl) (fun _ _ _ h => h) (Or.inl ⟨by kernel_rfl, ?_⟩) HSW ?_
  rotate_left
  · (intro w hSw; clear hSw; go_simp; (try with_reducible rfl))
  (try simp only [Act.put]); (try simp only [List.setIfInBounds_toArray]); (try simp only [List.set_cons_succ]); (try simp only [List.set_cons_zero])
  refine anyT_takeD 3 [4, 11, 12, 13, 14] 59 (v := ?_) rfl rfl (by kernel_rfl) (fun _ _ _ h => h) (Or.inl ⟨by kernel_rfl, ?_⟩) HSW ?_
  rotate_left
  · (intro w hSw; clear hSw; go_simp; (try with_reducible rfl))
  (try simp only [Act.put]); (try simp only [List.setIfInBounds_toArray]); (try simp only [List.set_cons_succ]); (try simp only [List.set_cons_zero])
  refine anyT_takeD 4 [11, 12, 13, 14] 60 (v := ?_) rfl rfl (by kernel_rfl) (fun _ _ _ h => h) (Or.inl ⟨by kernel_rfl, ?_⟩) HSW ?_
  rotate_left
  · (intro w hSw; have hop := Sr.open hSw; have o2 := (hop 2).trans HC2.out; have o5 := (hop 5).trans HC5.out; have o6 := (hop 6).trans HC6.out; have o7 := (hop 7).trans HC7.out; clear hop; go_simp; (try with_reducible rfl))
  (try simp only [Act.put]); (try simp only [List.setIfInBounds_toArray]); (try simp only [List.set_cons_succ]); (try simp only [List.set_cons_zero])
  refine anyT_takeD 5 [6, 7, 8, 9, 10, 11, 12, 13, 14] 61 (v := ?_) rfl rfl (by kernel_rfl) (fun _ _ _ h => h) (Or.inl ⟨by kernel_rfl, ?_⟩) HSW ?_
  rotate_left
  · (intro w hSw; clear hSw; go_simp; (try with_reducible rfl))
  (try simp only [Act.put]); (try simp only [List.setIfInBounds_toArray]); (try simp only [List.set_cons_succ]); (try simp only [List.set_cons_zero])
  refine anyT_takeD 6 [7, 8, 9, 10, 11, 12, 13, 14] 62 (v := ?_) rfl rfl (by kernel_rfl) (fun _ _ _ h => h) (Or.inl ⟨by kernel_rfl, ?_⟩) HSW ?_
  rotate_left
  · (intro w hSw; clear hSw; go_simp; (try with_reducible rfl))
  (try simp only [Act.put]); (try simp only [List.setIfInBounds_toArray]); (try simp only [List.set_cons_succ]); (try simp only [List.set_cons_zero])
  refine anyT_takeD 7 [8, 9, 10, 11, 12, 13, 14] 63 (v := ?_) rfl rfl (by kernel_rfl) (fun _ _ _ h => h) (Or.inl ⟨by kernel_rfl, ?_⟩) HSW ?_
  rotate_left
  · (intro w hSw; clear hSw; go_simp; (try with_reducible rfl))
  (try simp only [Act.put]); (try simp only [List.setIfInBounds_toArray]); (try simp only [List.set_cons_succ]); (try simp only [List.set_cons_zero])
  refine anyT_takeD 8 [9, 10, 11, 12, 13, 14] 64 (v := ?_) rfl rfl (by kernel_rfl) (fun _ _ _ h => h) (Or.inl ⟨by kernel_rfl, ?_⟩) HSW ?_
  rotate_left
  · (intro w hSw; have hop := Sr.open hSw; have o2 := (hop 2).trans HC2.out; have o5 := (hop 5).trans HC5.out; have o6 := (hop 6).trans HC6.out; have o7 := (hop 7).trans HC7.out; clear hop; go_simp; (try with_reducible rfl))
  (try simp only [Act.put]); (try simp only [List.setIfInBounds_toArray]); (try simp only [List.set_cons_succ]); (try simp only [List.set_cons_zero])
  refine anyT_takeD 9 [10, 11, 12, 13, 14] 65 (v := ?_) rfl rfl (by kernel_rfl) (fun _ _ _ h => h) (Or.inl ⟨by kernel_rfl, ?_⟩) HSW ?_
  rotate_left
  · (intro w hSw; clear hSw; go_simp; (try with_reducible rfl))
  (try simp only [Act.put]); (try simp only [List.setIfInBounds_toArray]); (try simp only [List.set_cons_succ]); (try simp only [List.set_cons_zero])
  refine anyT_step 10 (by kernel_rfl) rfl (fun K hK => ?_)
  go_simp
  have hB := (Below.refl Y0.heap.size Y0).alloc (Nat.le_refl _) (.cells #[.int .i64 10, .string S'.g, .int .i64 S'.f, .int .i64 S'.t] 50)
  have hRd := HRD.out.over hB
  have hBd := (hB.block b0 (row_lt HBD.out)).trans HBD.out
  have hND := heap_alloc_new Y0 (.cells #[.int .i64 10, .string S'.g, .int .i64 S'.f, .int .i64 S'.t] 50)
  have HSW : Sr r w2.heap[r]? (Y0.alloc (.cells #[.int .i64 10, .string S'.g, .int .i64 S'.f, .int .i64 S'.t] 50)) := (hB.block r (row_lt HRD.out.obj)).trans HSW
  refine hK.out _ _ (fun _ => HSW) ?_
  clear hK K hB
  obtain ⟨gd, hgd⟩ : ∃ g, Y0.heap.size = g := ⟨_, rfl⟩
  obtain ⟨Y1, hY⟩ : ∃ Y, Y0.alloc (.cells #[.int .i64 10, .string S'.g, .int .i64 S'.f, .int .i64 S'.t] 50) = Y := ⟨_, rfl⟩
  rw [hY] at hRd hBd hND HSW ⊢
  rw [hgd] at hND ⊢
  clear hY hgd HRD HBD
  have HRD := Lib.hid hRd
  have HBD := Lib.hid hBd
  have HDG := Lib.hid (fun ty => hRd.dg (ty := ty) (d := ⟨10, S'.g, S'.f, S'.t⟩) (src_dg (d := ⟨10, S'.g, S'.f, S'.t⟩) hND) hdl)
  clear hRd hBd hND
  (try simp only [Act.put]); (try simp only [List.setIfInBounds_toArray]); (try simp only [List.set_cons_succ]); (try simp only [List.set_cons_zero])
  refine anyT_step 11 (by kernel_rfl) rfl (fun K hK => ?_)
  refine step_run rfl (.tmp 60) (.tmp 66) 39 rfl (.slice da2 S'.D.length dc2) (.slice (some ⟨gd, 0, none⟩) 1 1) (by kernel_rfl) (by kernel_rfl) (fun a' n' c' w' => w'.heap[r]? = Y1.heap[r]? ∧ (∀ e, e ≠ 50 → ∀ q, KindAt Y1 q e → w'.heap[q]? = Y1.heap[q]?) ∧ RW V r { S' with D := S'.D ++ [⟨10, S'.g, S'.f, S'.t⟩] } ta2 tc2 fa2 fc2 a' c' xa2 xc2 (w'.setCell ⟨r, 2, none⟩ (.slice a' n' c'))) (HDG.out _) ?_
  rintro da3 dn3 dc3 w3 ⟨hr3, hk3, hR3⟩
  have HSW : Sr r w2.heap[r]? w3 := hr3.trans HSW
  have hBd : w3.heap[b0]? = some (ptObj ⟨false, q.g, q.f, q.t, q.T, q.o⟩ (.slice (some ⟨g, o, none⟩) n sc)) := (hk3 83 (by decide) b0 ⟨_, _, HBD.out⟩).trans HBD.out
  have HR3 := Lib.hid hR3
  have HBD := Lib.hid hBd
  refine hK.out _ _ (fun _ => HSW) ?_
  clear hK K hr3 hk3 hR3 hBd
  (try simp only [Act.put]); (try simp only [List.setIfInBounds_toArray]); (try simp only [List.set_cons_succ]); (try simp only [List.set_cons_zero])
  refine anyT_takeD 12 [13, 14] 68 (v := ?_) rfl rfl (by kernel_rfl) (fun _ _ _ h => h) (Or.inl ⟨by kernel_rfl, ?_⟩) HSW ?_
  rotate_left
  · (intro w hSw; clear hSw; go_simp; (try with_reducible rfl))
  (try simp only [Act.put]); (try simp only [List.setIfInBounds_toArray]); (try simp only [List.set_cons_succ]); (try simp only [List.set_cons_zero])
  refine anyT_takeD 13 [14] 69 (v := ?_) rfl rfl (by kernel_rfl) (fun _ _ _ h => h) (Or.inl ⟨by kernel_rfl, ?_⟩) HSW ?_
  rotate_left
  · (intro w hSw; clear hSw; go_simp; (try with_reducible rfl))
  (try simp only [Act.put]); (try simp only [List.setIfInBounds_toArray]); (try simp only [List.set_cons_succ]); (try simp only [List.set_cons_zero])
  refine anyT_step 14 (by kernel_rfl) rfl (fun K hK => ?_)
  have r2 := (Sr.open HSW 2).trans HC2.out
  have rf : ∀ j, w3.frozen? ⟨r, j, none⟩ = false := fun j => by
    have h9 := HSW.trans HR2.out.obj
    unfold rowObj at h9
    exact Lib.frozen_of_heap h9 _
  go_simp
  have HBE := Lib.hid ((heap_setCell_other w3 ⟨r, 2, none⟩ b0 (.slice da3 dn3 dc3) hrb).trans HBD.out)
  refine hK.out _ _ (fun h => absurd rfl h) ?_
  clear hK K r2 rf
  (try simp only [Act.put]); (try simp only [List.setIfInBounds_toArray]); (try simp only [List.set_cons_succ]); (try simp only [List.set_cons_zero])
  refine anyT_done (by kernel_rfl) ?_ _
  clear HSW HBD HRD HDG HC2 HC5 HC6 HC7 HR2 HB2
  obtain ⟨w5, hw5⟩ : ∃ w5, w3.setCell ⟨r, 2, none⟩ (.slice da3 dn3 dc3) = w5 := ⟨_, rfl⟩
  rw [hw5] at HR3 HBE ⊢
  clear hw5
  obtain ⟨k0, k1, k2, k3, k4, k5, kf⟩ := boxPt HBE.out
  obtain ⟨-, -, -, -, d4, -, -, -, -, df⟩ := HR3.out.cells
  have HRB := Lib.hid (HR3.out.putp false)
  go_wp2_with (go_at_call 54; (with_reducible refine (HAD.out _ _ _ _ _ _ _ _ _ HRB.out).mono ?_); rintro e w9 ⟨rfl, hpost⟩; have HPO := Lib.hid hpost; clear hpost)
  go_end0
  exact ⟨rfl, HPO.out⟩

end Go.Proofs.Ytobplffailbkbaa
