/-
  Texts of the proof, put together: SuT.
-/
import Derived.Test.YtobplffailbkbaaG37
import Derived.Deep.DeepCutAuto
import Derived.Deep.Cut

/-
  The tokens of a part behind the others: the project's add, walked.
-/
namespace Go.Proofs.Ytobplffailbkbaa
open Go.RowKit Go.Maps

def AddPost (V : World) (r : Nat) (S : Rw) (e : Ending) (w' : World) : Prop := e = .returned (.tuple #[]) ∧ ∃ ta tc fa fc da dc xa xc, RW V r S ta tc fa fc da dc xa xc w'
def ptObj (q : Pt) (sv : Value) : Obj := .cells #[.bool q.p, .string q.g, .int .i64 q.f, .int .i64 q.t, sv, .int .i64 q.o] 83
/-- Ahead of each turn. -/
def AddRel (V : World) (r : Nat) (S : Rw) (q : Pt) (sv : Value) (b0 : Nat) (v : Value) (wr : World) : Prop :=
  ∃ i : Nat, v = .int .i64 i ∧ i ≤ q.T.length ∧ (∃ ta tc fa fc da dc xa xc, RW V r (addL q.o (q.T.take i) S) ta tc fa fc da dc xa xc wr) ∧ wr.heap[b0]? = some (ptObj q sv)
theorem addL_next {o : Int} {T : List Xt} {S : Rw} {i : Nat} {t : Xt} (h : T[i]? = some t) : addL o (T.take (i + 1)) S = pushL o (addL o (T.take i) S) t := by
  have h2 := List.take_add_one (l := T) (i := i)
  rw [h] at h2
  unfold addL
  rw [h2, List.foldl_append]
  rfl
theorem addL_len {o : Int} : ∀ {T : List Xt} {S : Rw}, (addL o T S).T.length = S.T.length + T.length ∧ (addL o T S).x.length ≤ S.x.length
  | [], S => ⟨rfl, Nat.le_refl _⟩
  | t :: T, S => by
    obtain ⟨h1, h2⟩ := addL_len (o := o) (T := T) (S := pushL o S t)
    have h3 := (setL_T S).1
    have h4 := (setL_T S).2.2.2
    have e1 : (pushL o S t).T.length = S.T.length + 1 := by
      unfold pushL
      simp [h3]
    have e2 : (pushL o S t).x.length = 0 := by
      unfold pushL
      simp [h4]
    refine ⟨?_, ?_⟩
    · show (addL o T (pushL o S t)).T.length = _
      rw [h1, e1, List.length_cons]
      omega
    · show (addL o T (pushL o S t)).x.length ≤ _
      omega

theorem rt_cells {V : World} {r : Nat} {S : Rw} {T : List Xt} {F : List Int} {ta : Option Addr} {tc : Nat} {fa : Option Addr} {fc : Nat} {da : Option Addr} {dc : Nat} {xa : Option Addr} {xc : Nat} {ta' : Option Addr} {tc' : Nat} {fa' : Option Addr} {fc' : Nat} {w : World} (h : RT V r S T F ta tc fa fc da dc xa xc ta' tc' fa' fc' w) :
    w.cell? ⟨r, 0, none⟩ = some (.slice ta S.T.length tc) ∧ (∀ j, w.frozen? ⟨r, j, none⟩ = false) ∧ ∀ v, (w.setCell ⟨r, 0, none⟩ v).cell? ⟨r, 1, none⟩ = some (.slice fa S.F.length fc) ∧ ∀ j, (w.setCell ⟨r, 0, none⟩ v).frozen? ⟨r, j, none⟩ = false := by
  have ho := h.obj
  unfold rowObj at ho
  refine ⟨by rw [Lib.cell_of_heap ho]; rfl, fun j => Lib.frozen_of_heap ho _, fun v => ?_⟩
  have e := row_set ho 0 v
  exact ⟨by rw [Lib.cell_of_heap e]; rfl, fun j => Lib.frozen_of_heap e _⟩

set_option linter.unusedSimpArgs false in
set_option maxRecDepth 100000 in
set_option maxHeartbeats 6400000 in
theorem add_any {V : World} {r : Nat} {S : Rw} {ta : Option Addr} {tc : Nat} {fa : Option Addr} {fc : Nat} {da : Option Addr} {dc : Nat} {xa : Option Addr} {xc : Nat} {w : World} (h : RW V r S ta tc fa fc da dc xa xc w) (q : Pt) (sa : Option Addr) (sc : Nat) (hT : HeldIn (Deep V r) V (ToksX q.T (.slice sa q.T.length sc))) (hb : S.x.length ≤ 100000000 ∧ S.T.length + q.T.length ≤ 500000) :
    Calls Try.prog 54 #[.pointer (some ⟨r, 0, none⟩), ptV q (.slice sa q.T.length sc)] w (AddPost V r (addL q.o q.T S)) := by
  obtain ⟨b0, hb0⟩ : ∃ b0, w.heap.size = b0 := ⟨_, rfl⟩
  obtain ⟨n, hn⟩ : ∃ n, q.T.length = n := ⟨_, rfl⟩
  have hst : AddRel V r S q (.slice sa n sc) b0 (.int .i64 0) (w.alloc (ptObj q (.slice sa n sc))) := ⟨0, rfl, Nat.zero_le _, ⟨ta, tc, fa, fc, da, dc, xa, xc, h.over ((Below.refl _ _).alloc (Nat.le_refl _) _)⟩, by rw [← hb0]; exact heap_alloc_new w _⟩
  have HST := Lib.hid hst
  have HB := Lib.hid hb
  have HT := Lib.hid hT
  have hbox : (w.alloc (ptObj q (.slice sa n sc))).heap[b0]? = some (ptObj q (.slice sa n sc)) := by rw [← hb0]; exact heap_alloc_new w _
  have hx4 : (w.alloc (ptObj q (.slice sa n sc))).cell? ⟨b0, 4, none⟩ = some (.slice sa n sc) := by rw [Lib.cell_of_heap hbox]; rfl
  have HN := Lib.hid hn
  rw [hn]
  unfold ptObj at hx4
  unfold ptV
  clear h hst hb hT hn hbox
  go_enter Try.func54, Try.ntmps54
  go_upto_region 1 with (fail)
  unfold ptObj at HST
  obtain ⟨w1, hw⟩ : ∃ w1, w.alloc (.cells #[.bool q.p, .string q.g, .int .i64 q.f, .int .i64 q.t, .slice sa n sc, .int .i64 q.o] 83) = w1 := ⟨_, rfl⟩
  rw [hw] at hx4 HST ⊢
  clear hw hb0
  go_wp2
  go_loopw [9] (AddRel V r S q (.slice sa n sc) b0) (fun i _ => n - (intOf i).toNat)
  case atStart => exact HST.out
  case round =>
    obtain ⟨i, rfl, hi, ⟨ta1, tc1, fa1, fc1, da1, dc1, xa1, xc1, hR⟩, hbx⟩ := hrel
    have HR := Lib.hid hR
    have HBX := Lib.hid hbx
    clear hbx
    by_cases hlt : i < n
    · obtain ⟨t, ht⟩ : ∃ t, q.T[i]? = some t := ⟨_, List.getElem?_eq_getElem (by have := HN.out; omega)⟩
      obtain ⟨g, o, sv, rfl, hg, hgr, htk, hsv⟩ := held_tok (by have := HT.out; rw [HN.out] at this; exact this) ht
      have hstl : StillB (Deep V r) V wr := StillB.of_grown hR.low fun g hg e => hg.2 (Option.some.inj e)
      obtain ⟨e0, e1, e2, e3, e4, e5, e6, e7⟩ := htk wr hstl
      obtain ⟨aa, ca, hsl, -⟩ := (hsv _ hstl)
      subst hsl
      have HSV := Lib.hid hsv
      have HNX := Lib.hid (addL_next (o := q.o) (S := S) ht)
      have hlen : (addL q.o (q.T.take i) S).T.length ≤ 499999 ∧ (addL q.o (q.T.take i) S).x.length ≤ 100000000 := by
        obtain ⟨l1, l2⟩ := addL_len (o := q.o) (T := q.T.take i) (S := S)
        rw [List.length_take] at l1
        have := HB.out
        have := HN.out
        omega
      obtain ⟨S1, hS1⟩ : ∃ S1, addL q.o (q.T.take i) S = S1 := ⟨_, rfl⟩
      rw [hS1] at HR HNX hlen
      have HL := Lib.hid hlen
      have HSE : Hid (∀ X : World, Below wr.heap.size wr X → Calls Try.prog 55 #[.pointer (some ⟨r, 0, none⟩)] X (SetPost V r (setL S1) ta1 tc1 fa1 fc1 da1 dc1 X)) := Lib.hid (fun X hX => settle_any (HR.out.over hX) ⟨HL.out.2, by have := HL.out.1; omega⟩)
      have hgw : g < wr.heap.size := Nat.lt_of_lt_of_le hg hR.low.size
      have hiI : (i : Int) < (n : Int) := by omega
      have hi0 : (0 : Int) ≤ (i : Int) := by omega
      clear hR hS1 hlen hstl htk hsv ht
      go_upto_region 5 with (go_at_call 55; (with_reducible refine (HSE.out _ ((Below.refl _ _).alloc (Nat.le_refl _) _)).mono ?_); rintro e w2 ⟨rfl, ⟨xa2, xc2, hR2⟩, hsz2, hfar⟩; have HR2 := Lib.hid hR2; have HFAR := Lib.hid hfar; have HSZ2 := Lib.hid hsz2; clear hR2 hfar hsz2)
      have hrlt := row_lt HR.out.obj
      have hb5 : w2.heap[wr.heap.size]? = some (tokObj (t, .slice aa t.ss.length ca)) := by
        rw [HFAR.out _ (by omega) fun e => by
          have := (HR.out.toks.kind _ e).2.lt
          omega]
        exact heap_alloc_new wr _
      have hbo : w2.heap[b0]? = some (ptObj q (.slice (some ⟨g, o, none⟩) n sc)) := by
        have hlt0 := row_lt HBX.out
        have hk0 : KindAt wr b0 83 := ⟨_, _, HBX.out⟩
        have hkr : KindAt wr r 79 := ⟨_, _, HR.out.obj⟩
        rw [HFAR.out _ (fun e => hk0.ne hkr (by decide) e) fun e => hk0.ne (HR.out.toks.kind _ e).2 (by decide) rfl]
        exact (((Below.refl wr.heap.size wr).alloc (Nat.le_refl _) _).block b0 hlt0).trans HBX.out
      obtain ⟨b5, hb5n⟩ : ∃ b5, wr.heap.size = b5 := ⟨_, rfl⟩
      rw [hb5n] at hb5 ⊢
      have HR0 := Lib.hid HR2.out.cells.1
      have HR1 := Lib.hid HR2.out.cells.2.1
      have HQ5 : Hid (w2.cell? ⟨b0, 5, none⟩ = some (.int .i64 q.o)) := Lib.hid (by rw [Lib.cell_of_heap hbo]; rfl)
      have HTC := Lib.hid (cells8 hb5)
      have HSW : St5 r b0 b5 w2.heap[r]? w2.heap[b0]? w2.heap[b5]? w2.drew := ⟨rfl, rfl, rfl⟩
      obtain ⟨Y0, hwd⟩ : ∃ Y, w2.drew = Y := ⟨_, rfl⟩
      rw [hwd] at HSW
      refine region_anyL (S := St5 r b0 b5 w2.heap[r]? w2.heap[b0]? w2.heap[b5]?) [1, 19, 20, 21, 22] (by kernel_rfl) ?_
      rw [hwd]
      refine anyL_freeD 1 [20, 21, 22] 16 (v := ?_) rfl rfl (by kernel_rfl) (fun _ _ _ h => h) (Or.inl ⟨by kernel_rfl, ?_⟩) ?_
      rotate_left
      · (intro w hSw; clear hSw; go_simp; (try with_reducible rfl))
      (try simp only [List.setIfInBounds_toArray]); (try simp only [List.set_cons_succ]); (try simp only [List.set_cons_zero])
      refine anyL_takeD 0 [17, 18, 19, 20, 21, 22] 15 (v := ?_) rfl rfl (by kernel_rfl) (fun _ _ _ h => h) (Or.inl ⟨by kernel_rfl, ?_⟩) HSW ?_
      rotate_left
      · (intro w hSw; clear hSw; go_simp; (try with_reducible rfl))
      (try simp only [List.setIfInBounds_toArray]); (try simp only [List.set_cons_succ]); (try simp only [List.set_cons_zero])
      refine anyL_takeD 2 [3, 4, 5, 8, 16, 17, 18, 19, 20, 21, 22] 17 (v := ?_) rfl rfl (by kernel_rfl) (fun _ _ _ h => h) (Or.inl ⟨by kernel_rfl, ?_⟩) HSW ?_
      rotate_left
      · (intro w hSw; clear hSw; go_simp; (try with_reducible rfl))
      (try simp only [List.setIfInBounds_toArray]); (try simp only [List.set_cons_succ]); (try simp only [List.set_cons_zero])
      refine anyL_takeD 3 [4, 5, 8, 16, 17, 18, 19, 20, 21, 22] 18 (v := ?_) rfl rfl (by kernel_rfl) (fun _ _ _ h => h) (Or.inl ⟨by kernel_rfl, ?_⟩) HSW ?_
      rotate_left
      · (intro w hSw; clear hSw; go_simp; (try with_reducible rfl))
      (try simp only [List.setIfInBounds_toArray]); (try simp only [List.set_cons_succ]); (try simp only [List.set_cons_zero])
      refine anyL_takeD 4 [5, 8, 16, 17, 18, 19, 20, 21, 22] 19 (v := ?_) rfl rfl (by kernel_rfl) (fun _ _ _ h => h) (Or.inl ⟨by kernel_rfl, ?_⟩) HSW ?_
      rotate_left
      · (intro w hSw; clear hSw; go_simp; (try with_reducible rfl))
      (try simp only [List.setIfInBounds_toArray]); (try simp only [List.set_cons_succ]); (try simp only [List.set_cons_zero])
      refine anyL_takeD 5 [8, 16, 17, 18, 19, 20, 21, 22] 20 (v := ?_) rfl rfl (by kernel_rfl) (fun _ _ _ h => h) (Or.inl ⟨by kernel_rfl, ?_⟩) HSW ?_
      rotate_left
      · (intro w hSw; have hop := St5.open hSw; have o0 := (hop 0).1.trans HR0.out; have o1 := (hop 1).1.trans HR1.out; have o5 := (hop 5).2.1.trans HQ5.out; (obtain ⟨x0, x1, x2, x3, x4, x5, x6, x7⟩ := HTC.out); have q0 := (hop 0).2.2.trans x0; have q1 := (hop 1).2.2.trans x1; have q2 := (hop 2).2.2.trans x2; have q3 := (hop 3).2.2.trans x3; have q4 := (hop 4).2.2.trans x4; have q5 := (hop 5).2.2.trans x5; have q6 := (hop 6).2.2.trans x6; have q7 := (hop 7).2.2.trans x7; clear hop x0 x1 x2 x3 x4 x5 x6 x7; go_simp; (try with_reducible rfl))
      (try simp only [List.setIfInBounds_toArray]); (try simp only [List.set_cons_succ]); (try simp only [List.set_cons_zero])
      refine anyL_takeD 6 [7, 8, 16, 17, 18, 19, 20, 21, 22] 21 (v := ?_) rfl rfl (by kernel_rfl) (fun _ _ _ h => h) (Or.inl ⟨by kernel_rfl, ?_⟩) HSW ?_
      rotate_left
      · (intro w hSw; have hop := St5.open hSw; have o0 := (hop 0).1.trans HR0.out; have o1 := (hop 1).1.trans HR1.out; have o5 := (hop 5).2.1.trans HQ5.out; (obtain ⟨x0, x1, x2, x3, x4, x5, x6, x7⟩ := HTC.out); have q0 := (hop 0).2.2.trans x0; have q1 := (hop 1).2.2.trans x1; have q2 := (hop 2).2.2.trans x2; have q3 := (hop 3).2.2.trans x3; have q4 := (hop 4).2.2.trans x4; have q5 := (hop 5).2.2.trans x5; have q6 := (hop 6).2.2.trans x6; have q7 := (hop 7).2.2.trans x7; clear hop x0 x1 x2 x3 x4 x5 x6 x7; go_simp; (try with_reducible rfl))
      (try simp only [List.setIfInBounds_toArray]); (try simp only [List.set_cons_succ]); (try simp only [List.set_cons_zero])
      refine anyL_takeD 9 [10, 11, 12, 16, 17, 18, 19, 20, 21, 22] 24 (v := ?_) rfl rfl (by kernel_rfl) (fun _ _ _ h => h) (Or.inl ⟨by kernel_rfl, ?_⟩) HSW ?_
      rotate_left
      · (intro w hSw; clear hSw; go_simp; (try with_reducible rfl))
      (try simp only [List.setIfInBounds_toArray]); (try simp only [List.set_cons_succ]); (try simp only [List.set_cons_zero])
      refine anyL_takeD 10 [11, 12, 16, 17, 18, 19, 20, 21, 22] 25 (v := ?_) rfl rfl (by kernel_rfl) (fun _ _ _ h => h) (Or.inl ⟨by kernel_rfl, ?_⟩) HSW ?_
      rotate_left
      · (intro w hSw; clear hSw; go_simp; (try with_reducible rfl))
      (try simp only [List.setIfInBounds_toArray]); (try simp only [List.set_cons_succ]); (try simp only [List.set_cons_zero])
      refine anyL_takeD 11 [12, 16, 17, 18, 19, 20, 21, 22] 26 (v := ?_) rfl rfl (by kernel_rfl) (fun _ _ _ h => h) (Or.inl ⟨by kernel_rfl, ?_⟩) HSW ?_
      rotate_left
      · (intro w hSw; clear hSw; go_simp; (try with_reducible rfl))
      (try simp only [List.setIfInBounds_toArray]); (try simp only [List.set_cons_succ]); (try simp only [List.set_cons_zero])
      refine anyL_takeD 12 [16, 17, 18, 19, 20, 21, 22] 27 (v := ?_) rfl rfl (by kernel_rfl) (fun _ _ _ h => h) (Or.inl ⟨by kernel_rfl, ?_⟩) HSW ?_
      rotate_left
      · (intro w hSw; have hop := St5.open hSw; have o0 := (hop 0).1.trans HR0.out; have o1 := (hop 1).1.trans HR1.out; have o5 := (hop 5).2.1.trans HQ5.out; (obtain ⟨x0, x1, x2, x3, x4, x5, x6, x7⟩ := HTC.out); have q0 := (hop 0).2.2.trans x0; have q1 := (hop 1).2.2.trans x1; have q2 := (hop 2).2.2.trans x2; have q3 := (hop 3).2.2.trans x3; have q4 := (hop 4).2.2.trans x4; have q5 := (hop 5).2.2.trans x5; have q6 := (hop 6).2.2.trans x6; have q7 := (hop 7).2.2.trans x7; clear hop x0 x1 x2 x3 x4 x5 x6 x7; go_simp; (try with_reducible rfl))
      (try simp only [List.setIfInBounds_toArray]); (try simp only [List.set_cons_succ]); (try simp only [List.set_cons_zero])
      refine anyL_takeD 13 [14, 15, 16, 17, 18, 19, 20, 21, 22] 28 (v := ?_) rfl rfl (by kernel_rfl) (fun _ _ _ h => h) (Or.inl ⟨by kernel_rfl, ?_⟩) HSW ?_
      rotate_left
      · (intro w hSw; clear hSw; go_simp; (try with_reducible rfl))
      (try simp only [List.setIfInBounds_toArray]); (try simp only [List.set_cons_succ]); (try simp only [List.set_cons_zero])
      refine anyL_takeD 14 [15, 16, 17, 18, 19, 20, 21, 22] 29 (v := ?_) rfl rfl (by kernel_rfl) (fun _ _ _ h => h) (Or.inl ⟨by kernel_rfl, ?_⟩) HSW ?_
      rotate_left
      · (intro w hSw; have hop := St5.open hSw; have o0 := (hop 0).1.trans HR0.out; have o1 := (hop 1).1.trans HR1.out; have o5 := (hop 5).2.1.trans HQ5.out; (obtain ⟨x0, x1, x2, x3, x4, x5, x6, x7⟩ := HTC.out); have q0 := (hop 0).2.2.trans x0; have q1 := (hop 1).2.2.trans x1; have q2 := (hop 2).2.2.trans x2; have q3 := (hop 3).2.2.trans x3; have q4 := (hop 4).2.2.trans x4; have q5 := (hop 5).2.2.trans x5; have q6 := (hop 6).2.2.trans x6; have q7 := (hop 7).2.2.trans x7; clear hop x0 x1 x2 x3 x4 x5 x6 x7; go_simp; (try with_reducible rfl))
      (try simp only [List.setIfInBounds_toArray]); (try simp only [List.set_cons_succ]); (try simp only [List.set_cons_zero])
      have HRT := Lib.hid ((HR2.out.over (Below.refl _ _).drew).rt)
      rw [hwd] at HRT
      have HS5 : Hid (St5 r b0 b5 (some (rowObj (.slice ta1 (setL S1).T.length tc1) (.slice fa1 (setL S1).F.length fc1) (.slice da1 (setL S1).D.length dc1) ((setL S1).a : Int) (setL S1).p (setL S1).g (setL S1).f (setL S1).t (.slice xa2 (setL S1).x.length xc2))) (some (.cells #[.bool q.p, .string q.g, .int .i64 q.f, .int .i64 q.t, .slice (some ⟨g, o, none⟩) n sc, .int .i64 q.o] 83)) (some (tokObj (t, .slice aa t.ss.length ca))) Y0) := Lib.hid (by
        rw [← hwd]
        exact ⟨HR2.out.obj, hbo, hb5⟩)
      have HCV : Hid (∀ w : World, St5 r b0 b5 (some (rowObj (.slice ta1 (setL S1).T.length tc1) (.slice fa1 (setL S1).F.length fc1) (.slice da1 (setL S1).D.length dc1) ((setL S1).a : Int) (setL S1).p (setL S1).g (setL S1).f (setL S1).t (.slice xa2 (setL S1).x.length xc2))) (some (.cells #[.bool q.p, .string q.g, .int .i64 q.f, .int .i64 q.t, .slice (some ⟨g, o, none⟩) n sc, .int .i64 q.o] 83)) (some (tokObj (t, .slice aa t.ss.length ca))) w → St5 r b0 b5 w2.heap[r]? w2.heap[b0]? w2.heap[b5]? w) := Lib.hid (by
        intro w hw
        unfold ptObj at hbo
        rw [HR2.out.obj, hbo, hb5]
        exact hw)
      have HNE5 : Hid (ta1 ≠ some ⟨b5, 0, none⟩) := Lib.hid (fun e => by
        have := (HR.out.toks.kind _ e).2.lt
        omega)
      have HSM := Lib.hid HR2.out.same
      have HPU : Hid (({ setL S1 with T := (setL S1).T ++ [t], F := (setL S1).F ++ [q.o] } : Rw) = addL q.o (q.T.take (i + 1)) S) := Lib.hid (by rw [HNX.out, (setL_T S1).2.1]; rfl)
      have HLT : Hid ((setL S1).T.length + 1 ≤ 1000000) := Lib.hid (by rw [(setL_T S1).1]; have := HL.out.1; omega)
      have HLF : Hid ((setL S1).F.length + 1 ≤ 1000000) := Lib.hid (by rw [HSM.out]; exact HLT.out)
      refine anyL_two 7 15 (by kernel_rfl) rfl rfl ?_ ?_
      · intro K hK
        go_simp
        have hB := (Below.refl Y0.heap.size Y0).alloc (Nat.le_refl _) (.cells #[.int .i64 t.k, .string t.x, .bool t.sp, .string t.g, .int .i64 t.f, .int .i64 t.t, .bool t.d, .slice aa t.ss.length ca] 26)
        have HRT := Lib.hid (HRT.out.over hB)
        have HS5 := Lib.hid (HS5.out.over hB)
        have HTA := Lib.hid (heap_alloc_new Y0 (.cells #[.int .i64 t.k, .string t.x, .bool t.sp, .string t.g, .int .i64 t.f, .int .i64 t.t, .bool t.d, .slice aa t.ss.length ca] 26))
        refine hK.out _ _ (fun _ => HCV.out _ HS5.out) ?_
        clear hK K hB
        obtain ⟨gt, hgt⟩ : ∃ g, Y0.heap.size = g := ⟨_, rfl⟩
        obtain ⟨X1, hX⟩ : ∃ X, Y0.alloc (.cells #[.int .i64 t.k, .string t.x, .bool t.sp, .string t.g, .int .i64 t.f, .int .i64 t.t, .bool t.d, .slice aa t.ss.length ca] 26) = X := ⟨_, rfl⟩
        rw [hX] at HRT HS5 HTA ⊢
        rw [hgt] at HTA ⊢
        clear hX hgt
        (try simp only [Act.put]); (try simp only [List.setIfInBounds_toArray]); (try simp only [List.set_cons_succ]); (try simp only [List.set_cons_zero])
        refine anyL_two 8 15 (by kernel_rfl) rfl rfl ?_ ?_
        · intro K hK
          refine step_run rfl (.tmp 20) (.tmp 22) 28 rfl (.slice ta1 (setL S1).T.length tc1) (.slice (some ⟨gt, 0, none⟩) 1 1) (by kernel_rfl) (by kernel_rfl) (fun b n' c' w' => n' = ((setL S1).T ++ [t]).length ∧ RT V r (setL S1) ((setL S1).T ++ [t]) (setL S1).F ta1 tc1 fa1 fc1 da1 dc1 xa2 xc2 b c' fa1 fc1 w' ∧ X1.grownBy w' (Value.slice ta1 (setL S1).T.length tc1).ownBlock) (HRT.out.tok rfl (src_tok (p := (t, .slice aa t.ss.length ca)) HTA.out) (HRT.out.sits HSV.out) HLT.out) ?_
          rintro tb _ tcb w3 ⟨rfl, h1, h2⟩
          have HS5 := Lib.hid (HRT.out.st_tok HS5.out HNE5.out h2)
          have HRT := Lib.hid h1
          clear h1 h2
          refine hK.out _ _ (fun _ => HCV.out _ HS5.out) ?_
          clear hK K
          (try simp only [Act.put]); (try simp only [List.setIfInBounds_toArray]); (try simp only [List.set_cons_succ]); (try simp only [List.set_cons_zero])
          refine anyL_step 15 (by kernel_rfl) rfl (fun K hK => ?_)
          go_simp
          have hB := (Below.refl w3.heap.size w3).alloc (Nat.le_refl _) (.cells #[.int .i64 q.o] 3)
          have HRT := Lib.hid (HRT.out.over hB)
          have HS5 := Lib.hid (HS5.out.over hB)
          have HNA := Lib.hid (heap_alloc_new w3 (.cells #[.int .i64 q.o] 3))
          refine hK.out _ _ (fun _ => HCV.out _ HS5.out) ?_
          clear hK K hB
          obtain ⟨gn, hgn⟩ : ∃ g, w3.heap.size = g := ⟨_, rfl⟩
          obtain ⟨X2, hX⟩ : ∃ X, w3.alloc (.cells #[.int .i64 q.o] 3) = X := ⟨_, rfl⟩
          rw [hX] at HRT HS5 HNA ⊢
          rw [hgn] at HNA ⊢
          clear hX hgn
          (try simp only [Act.put]); (try simp only [List.setIfInBounds_toArray]); (try simp only [List.set_cons_succ]); (try simp only [List.set_cons_zero])
          refine anyL_step 16 (by kernel_rfl) rfl (fun K hK => ?_)
          refine step_run rfl (.tmp 27) (.tmp 30) 42 rfl (.slice fa1 (setL S1).F.length fc1) (.slice (some ⟨gn, 0, none⟩) 1 1) (by kernel_rfl) (by kernel_rfl) (fun b n' c' w' => n' = ((setL S1).F ++ [q.o]).length ∧ RT V r (setL S1) ((setL S1).T ++ [t]) ((setL S1).F ++ [q.o]) ta1 tc1 fa1 fc1 da1 dc1 xa2 xc2 tb tcb b c' w' ∧ X2.grownBy w' (Value.slice fa1 (setL S1).F.length fc1).ownBlock) (HRT.out.num (src_num HNA.out) HLF.out) ?_
          rintro fb _ fcb w4 ⟨rfl, h1, h2⟩
          have HS5 := Lib.hid (HRT.out.st_num HS5.out h2)
          have HRT := Lib.hid h1
          clear h1 h2
          refine hK.out _ _ (fun _ => HCV.out _ HS5.out) ?_
          clear hK K
          (try simp only [Act.put]); (try simp only [List.setIfInBounds_toArray]); (try simp only [List.set_cons_succ]); (try simp only [List.set_cons_zero])
          obtain ⟨k0, kf, hk1⟩ := rt_cells HRT.out
          obtain ⟨k1, kf1⟩ := hk1 (.slice tb ((setL S1).T.length + 1) tcb)
          clear hk1
          refine anyL_step 17 (by kernel_rfl) rfl (fun K hK => ?_)
          go_simp
          refine hK.out _ _ (fun _ => HCV.out _ HS5.out) ?_
          clear hK K
          (try simp only [Act.put]); (try simp only [List.setIfInBounds_toArray]); (try simp only [List.set_cons_succ]); (try simp only [List.set_cons_zero])
          refine anyL_step 18 (by kernel_rfl) rfl (fun K hK => ?_)
          go_simp
          refine hK.out _ _ (fun _ => HCV.out _ HS5.out) ?_
          clear hK K
          (try simp only [Act.put]); (try simp only [List.setIfInBounds_toArray]); (try simp only [List.set_cons_succ]); (try simp only [List.set_cons_zero])
          refine anyL_step 19 (by kernel_rfl) rfl (fun K hK => ?_)
          go_simp
          refine hK.out _ _ (fun h => absurd h (by decide)) ?_
          clear hK K
          (try simp only [Act.put]); (try simp only [List.setIfInBounds_toArray]); (try simp only [List.set_cons_succ]); (try simp only [List.set_cons_zero])
          refine anyL_step 20 (by kernel_rfl) rfl (fun K hK => ?_)
          go_simp
          refine hK.out _ _ (fun h => absurd h (by decide)) ?_
          clear hK K
          (try simp only [Act.put]); (try simp only [List.setIfInBounds_toArray]); (try simp only [List.set_cons_succ]); (try simp only [List.set_cons_zero])
          refine anyL_step 21 (by kernel_rfl) rfl (fun K hK => ?_)
          go_simp
          refine hK.out _ _ (fun h => absurd h (by decide)) ?_
          clear hK K
          (try simp only [Act.put]); (try simp only [List.setIfInBounds_toArray]); (try simp only [List.set_cons_succ]); (try simp only [List.set_cons_zero])
          refine anyL_step 22 (by kernel_rfl) rfl (fun K hK => ?_)
          go_simp
          refine hK.out _ _ (fun h => absurd h (by decide)) ?_
          clear hK K
          (try simp only [Act.put]); (try simp only [List.setIfInBounds_toArray]); (try simp only [List.set_cons_succ]); (try simp only [List.set_cons_zero])
          refine ⟨by kernel_rfl, ?_⟩
          have hdn := HRT.out.done HSM.out
          simp only [List.length_append, List.length_cons, List.length_nil, Nat.zero_add] at hdn
          rw [HPU.out] at hdn
          have hbr : b0 ≠ r := KindAt.ne (w := w4) (⟨_, _, HS5.out.2.1⟩ : KindAt w4 b0 83) (⟨_, _, HS5.out.1⟩ : KindAt w4 r 79) (by decide)
          have hbb : ((w4.setCell ⟨r, 0, none⟩ (.slice tb ((setL S1).T.length + 1) tcb)).setCell ⟨r, 1, none⟩ (.slice fb ((setL S1).F.length + 1) fcb)).heap[b0]? = some (ptObj q (.slice (some ⟨g, o, none⟩) n sc)) := (heap_setCell_other _ _ _ _ hbr).trans ((heap_setCell_other _ _ _ _ hbr).trans HS5.out.2.1)
          obtain ⟨w6, hw6⟩ : ∃ w6, (w4.setCell ⟨r, 0, none⟩ (.slice tb ((setL S1).T.length + 1) tcb)).setCell ⟨r, 1, none⟩ (.slice fb ((setL S1).F.length + 1) fcb) = w6 := ⟨_, rfl⟩
          rw [hw6] at hdn hbb ⊢
          have HDN := Lib.hid hdn
          have HBB := Lib.hid hbb
          clear hdn hbb hw6 k0 kf k1 kf1 HS5 HRT
          have HLE : Hid (i + 1 ≤ q.T.length) := Lib.hid (by rw [HN.out]; exact hlt)
          have hn5 : n ≤ 500000 := by
            have := HB.out
            have := HN.out
            omega
          go_wp2
          go_roundw
          case rel => exact ⟨i + 1, by go_num, HLE.out, ⟨_, _, _, _, _, _, _, _, HDN.out⟩, HBB.out⟩
          case measure => simp [intOf]; omega
        · intro K hK
          go_simp
          have hB := (Below.refl X1.heap.size X1).alloc (Nat.le_refl _) (.cells #[.int .i64 q.o] 3)
          have HRT := Lib.hid (HRT.out.over hB)
          have HS5 := Lib.hid (HS5.out.over hB)
          have HNA := Lib.hid (heap_alloc_new X1 (.cells #[.int .i64 q.o] 3))
          have HTA := Lib.hid ((hB.block gt (row_lt HTA.out)).trans HTA.out)
          refine hK.out _ _ (fun _ => HCV.out _ HS5.out) ?_
          clear hK K hB
          obtain ⟨gn, hgn⟩ : ∃ g, X1.heap.size = g := ⟨_, rfl⟩
          obtain ⟨X3, hX⟩ : ∃ X, X1.alloc (.cells #[.int .i64 q.o] 3) = X := ⟨_, rfl⟩
          rw [hX] at HRT HS5 HNA HTA ⊢
          rw [hgn] at HNA ⊢
          clear hX hgn
          (try simp only [Act.put]); (try simp only [List.setIfInBounds_toArray]); (try simp only [List.set_cons_succ]); (try simp only [List.set_cons_zero])
          refine anyL_step 8 (by kernel_rfl) rfl (fun K hK => ?_)
          refine step_run rfl (.tmp 20) (.tmp 22) 28 rfl (.slice ta1 (setL S1).T.length tc1) (.slice (some ⟨gt, 0, none⟩) 1 1) (by kernel_rfl) (by kernel_rfl) (fun b n' c' w' => n' = ((setL S1).T ++ [t]).length ∧ RT V r (setL S1) ((setL S1).T ++ [t]) (setL S1).F ta1 tc1 fa1 fc1 da1 dc1 xa2 xc2 b c' fa1 fc1 w' ∧ X3.grownBy w' (Value.slice ta1 (setL S1).T.length tc1).ownBlock) (HRT.out.tok rfl (src_tok (p := (t, .slice aa t.ss.length ca)) HTA.out) (HRT.out.sits HSV.out) HLT.out) ?_
          rintro tb _ tcb w3 ⟨rfl, h1, h2⟩
          have HS5 := Lib.hid (HRT.out.st_tok HS5.out HNE5.out h2)
          have HNA := Lib.hid ((h2.block gn (row_lt HNA.out) fun e => KindAt.ne ⟨_, _, HNA.out⟩ (HRT.out.owns.1 gn e.symm).2.1 (by decide) rfl).trans HNA.out)
          have HRT := Lib.hid h1
          clear h1 h2
          refine hK.out _ _ (fun _ => HCV.out _ HS5.out) ?_
          clear hK K
          (try simp only [Act.put]); (try simp only [List.setIfInBounds_toArray]); (try simp only [List.set_cons_succ]); (try simp only [List.set_cons_zero])
          refine anyL_step 16 (by kernel_rfl) rfl (fun K hK => ?_)
          refine step_run rfl (.tmp 27) (.tmp 30) 42 rfl (.slice fa1 (setL S1).F.length fc1) (.slice (some ⟨gn, 0, none⟩) 1 1) (by kernel_rfl) (by kernel_rfl) (fun b n' c' w' => n' = ((setL S1).F ++ [q.o]).length ∧ RT V r (setL S1) ((setL S1).T ++ [t]) ((setL S1).F ++ [q.o]) ta1 tc1 fa1 fc1 da1 dc1 xa2 xc2 tb tcb b c' w' ∧ w3.grownBy w' (Value.slice fa1 (setL S1).F.length fc1).ownBlock) (HRT.out.num (src_num HNA.out) HLF.out) ?_
          rintro fb _ fcb w4 ⟨rfl, h1, h2⟩
          have HS5 := Lib.hid (HRT.out.st_num HS5.out h2)
          have HRT := Lib.hid h1
          clear h1 h2
          refine hK.out _ _ (fun _ => HCV.out _ HS5.out) ?_
          clear hK K
          (try simp only [Act.put]); (try simp only [List.setIfInBounds_toArray]); (try simp only [List.set_cons_succ]); (try simp only [List.set_cons_zero])
          obtain ⟨k0, kf, hk1⟩ := rt_cells HRT.out
          obtain ⟨k1, kf1⟩ := hk1 (.slice tb ((setL S1).T.length + 1) tcb)
          clear hk1
          refine anyL_step 17 (by kernel_rfl) rfl (fun K hK => ?_)
          go_simp
          refine hK.out _ _ (fun _ => HCV.out _ HS5.out) ?_
          clear hK K
          (try simp only [Act.put]); (try simp only [List.setIfInBounds_toArray]); (try simp only [List.set_cons_succ]); (try simp only [List.set_cons_zero])
          refine anyL_step 18 (by kernel_rfl) rfl (fun K hK => ?_)
          go_simp
          refine hK.out _ _ (fun _ => HCV.out _ HS5.out) ?_
          clear hK K
          (try simp only [Act.put]); (try simp only [List.setIfInBounds_toArray]); (try simp only [List.set_cons_succ]); (try simp only [List.set_cons_zero])
          refine anyL_step 19 (by kernel_rfl) rfl (fun K hK => ?_)
          go_simp
          refine hK.out _ _ (fun h => absurd h (by decide)) ?_
          clear hK K
          (try simp only [Act.put]); (try simp only [List.setIfInBounds_toArray]); (try simp only [List.set_cons_succ]); (try simp only [List.set_cons_zero])
          refine anyL_step 20 (by kernel_rfl) rfl (fun K hK => ?_)
          go_simp
          refine hK.out _ _ (fun h => absurd h (by decide)) ?_
          clear hK K
          (try simp only [Act.put]); (try simp only [List.setIfInBounds_toArray]); (try simp only [List.set_cons_succ]); (try simp only [List.set_cons_zero])
          refine anyL_step 21 (by kernel_rfl) rfl (fun K hK => ?_)
          go_simp
          refine hK.out _ _ (fun h => absurd h (by decide)) ?_
          clear hK K
          (try simp only [Act.put]); (try simp only [List.setIfInBounds_toArray]); (try simp only [List.set_cons_succ]); (try simp only [List.set_cons_zero])
          refine anyL_step 22 (by kernel_rfl) rfl (fun K hK => ?_)
          go_simp
          refine hK.out _ _ (fun h => absurd h (by decide)) ?_
          clear hK K
          (try simp only [Act.put]); (try simp only [List.setIfInBounds_toArray]); (try simp only [List.set_cons_succ]); (try simp only [List.set_cons_zero])
          refine ⟨by kernel_rfl, ?_⟩
          have hdn := HRT.out.done HSM.out
          simp only [List.length_append, List.length_cons, List.length_nil, Nat.zero_add] at hdn
          rw [HPU.out] at hdn
          have hbr : b0 ≠ r := KindAt.ne (w := w4) (⟨_, _, HS5.out.2.1⟩ : KindAt w4 b0 83) (⟨_, _, HS5.out.1⟩ : KindAt w4 r 79) (by decide)
          have hbb : ((w4.setCell ⟨r, 0, none⟩ (.slice tb ((setL S1).T.length + 1) tcb)).setCell ⟨r, 1, none⟩ (.slice fb ((setL S1).F.length + 1) fcb)).heap[b0]? = some (ptObj q (.slice (some ⟨g, o, none⟩) n sc)) := (heap_setCell_other _ _ _ _ hbr).trans ((heap_setCell_other _ _ _ _ hbr).trans HS5.out.2.1)
          obtain ⟨w6, hw6⟩ : ∃ w6, (w4.setCell ⟨r, 0, none⟩ (.slice tb ((setL S1).T.length + 1) tcb)).setCell ⟨r, 1, none⟩ (.slice fb ((setL S1).F.length + 1) fcb) = w6 := ⟨_, rfl⟩
          rw [hw6] at hdn hbb ⊢
          have HDN := Lib.hid hdn
          have HBB := Lib.hid hbb
          clear hdn hbb hw6 k0 kf k1 kf1 HS5 HRT
          have HLE : Hid (i + 1 ≤ q.T.length) := Lib.hid (by rw [HN.out]; exact hlt)
          have hn5 : n ≤ 500000 := by
            have := HB.out
            have := HN.out
            omega
          go_wp2
          go_roundw
          case rel => exact ⟨i + 1, by go_num, HLE.out, ⟨_, _, _, _, _, _, _, _, HDN.out⟩, HBB.out⟩
          case measure => simp [intOf]; omega
      · intro K hK
        go_simp
        have hB := (Below.refl Y0.heap.size Y0).alloc (Nat.le_refl _) (.cells #[.int .i64 q.o] 3)
        have HRT := Lib.hid (HRT.out.over hB)
        have HS5 := Lib.hid (HS5.out.over hB)
        have HNA := Lib.hid (heap_alloc_new Y0 (.cells #[.int .i64 q.o] 3))
        refine hK.out _ _ (fun _ => HCV.out _ HS5.out) ?_
        clear hK K hB
        obtain ⟨gn, hgn⟩ : ∃ g, Y0.heap.size = g := ⟨_, rfl⟩
        obtain ⟨X4, hX⟩ : ∃ X, Y0.alloc (.cells #[.int .i64 q.o] 3) = X := ⟨_, rfl⟩
        rw [hX] at HRT HS5 HNA ⊢
        rw [hgn] at HNA ⊢
        clear hX hgn
        (try simp only [Act.put]); (try simp only [List.setIfInBounds_toArray]); (try simp only [List.set_cons_succ]); (try simp only [List.set_cons_zero])
        refine anyL_step 7 (by kernel_rfl) rfl (fun K hK => ?_)
        go_simp
        have hB := (Below.refl X4.heap.size X4).alloc (Nat.le_refl _) (.cells #[.int .i64 t.k, .string t.x, .bool t.sp, .string t.g, .int .i64 t.f, .int .i64 t.t, .bool t.d, .slice aa t.ss.length ca] 26)
        have HRT := Lib.hid (HRT.out.over hB)
        have HS5 := Lib.hid (HS5.out.over hB)
        have HTA := Lib.hid (heap_alloc_new X4 (.cells #[.int .i64 t.k, .string t.x, .bool t.sp, .string t.g, .int .i64 t.f, .int .i64 t.t, .bool t.d, .slice aa t.ss.length ca] 26))
        have HNA := Lib.hid ((hB.block gn (row_lt HNA.out)).trans HNA.out)
        refine hK.out _ _ (fun _ => HCV.out _ HS5.out) ?_
        clear hK K hB
        obtain ⟨gt, hgt⟩ : ∃ g, X4.heap.size = g := ⟨_, rfl⟩
        obtain ⟨X5, hX⟩ : ∃ X, X4.alloc (.cells #[.int .i64 t.k, .string t.x, .bool t.sp, .string t.g, .int .i64 t.f, .int .i64 t.t, .bool t.d, .slice aa t.ss.length ca] 26) = X := ⟨_, rfl⟩
        rw [hX] at HRT HS5 HTA HNA ⊢
        rw [hgt] at HTA ⊢
        clear hX hgt
        (try simp only [Act.put]); (try simp only [List.setIfInBounds_toArray]); (try simp only [List.set_cons_succ]); (try simp only [List.set_cons_zero])
        refine anyL_step 8 (by kernel_rfl) rfl (fun K hK => ?_)
        refine step_run rfl (.tmp 20) (.tmp 22) 28 rfl (.slice ta1 (setL S1).T.length tc1) (.slice (some ⟨gt, 0, none⟩) 1 1) (by kernel_rfl) (by kernel_rfl) (fun b n' c' w' => n' = ((setL S1).T ++ [t]).length ∧ RT V r (setL S1) ((setL S1).T ++ [t]) (setL S1).F ta1 tc1 fa1 fc1 da1 dc1 xa2 xc2 b c' fa1 fc1 w' ∧ X5.grownBy w' (Value.slice ta1 (setL S1).T.length tc1).ownBlock) (HRT.out.tok rfl (src_tok (p := (t, .slice aa t.ss.length ca)) HTA.out) (HRT.out.sits HSV.out) HLT.out) ?_
        rintro tb _ tcb w3 ⟨rfl, h1, h2⟩
        have HS5 := Lib.hid (HRT.out.st_tok HS5.out HNE5.out h2)
        have HNA := Lib.hid ((h2.block gn (row_lt HNA.out) fun e => KindAt.ne ⟨_, _, HNA.out⟩ (HRT.out.owns.1 gn e.symm).2.1 (by decide) rfl).trans HNA.out)
        have HRT := Lib.hid h1
        clear h1 h2
        refine hK.out _ _ (fun _ => HCV.out _ HS5.out) ?_
        clear hK K
        (try simp only [Act.put]); (try simp only [List.setIfInBounds_toArray]); (try simp only [List.set_cons_succ]); (try simp only [List.set_cons_zero])
        refine anyL_step 16 (by kernel_rfl) rfl (fun K hK => ?_)
        refine step_run rfl (.tmp 27) (.tmp 30) 42 rfl (.slice fa1 (setL S1).F.length fc1) (.slice (some ⟨gn, 0, none⟩) 1 1) (by kernel_rfl) (by kernel_rfl) (fun b n' c' w' => n' = ((setL S1).F ++ [q.o]).length ∧ RT V r (setL S1) ((setL S1).T ++ [t]) ((setL S1).F ++ [q.o]) ta1 tc1 fa1 fc1 da1 dc1 xa2 xc2 tb tcb b c' w' ∧ w3.grownBy w' (Value.slice fa1 (setL S1).F.length fc1).ownBlock) (HRT.out.num (src_num HNA.out) HLF.out) ?_
        rintro fb _ fcb w4 ⟨rfl, h1, h2⟩
        have HS5 := Lib.hid (HRT.out.st_num HS5.out h2)
        have HRT := Lib.hid h1
        clear h1 h2
        refine hK.out _ _ (fun _ => HCV.out _ HS5.out) ?_
        clear hK K
        (try simp only [Act.put]); (try simp only [List.setIfInBounds_toArray]); (try simp only [List.set_cons_succ]); (try simp only [List.set_cons_zero])
        obtain ⟨k0, kf, hk1⟩ := rt_cells HRT.out
        obtain ⟨k1, kf1⟩ := hk1 (.slice tb ((setL S1).T.length + 1) tcb)
        clear hk1
        refine anyL_step 17 (by kernel_rfl) rfl (fun K hK => ?_)
        go_simp
        refine hK.out _ _ (fun _ => HCV.out _ HS5.out) ?_
        clear hK K
        (try simp only [Act.put]); (try simp only [List.setIfInBounds_toArray]); (try simp only [List.set_cons_succ]); (try simp only [List.set_cons_zero])
        refine anyL_step 18 (by kernel_rfl) rfl (fun K hK => ?_)
        go_simp
        refine hK.out _ _ (fun _ => HCV.out _ HS5.out) ?_
        clear hK K
        (try simp only [Act.put]); (try simp only [List.setIfInBounds_toArray]); (try simp only [List.set_cons_succ]); (try simp only [List.set_cons_zero])
        refine anyL_step 19 (by kernel_rfl) rfl (fun K hK => ?_)
        go_simp
        refine hK.out _ _ (fun h => absurd h (by decide)) ?_
        clear hK K
        (try simp only [Act.put]); (try simp only [List.setIfInBounds_toArray]); (try simp only [List.set_cons_succ]); (try simp only [List.set_cons_zero])
        refine anyL_step 20 (by kernel_rfl) rfl (fun K hK => ?_)
        go_simp
        refine hK.out _ _ (fun h => absurd h (by decide)) ?_
        clear hK K
        (try simp only [Act.put]); (try simp only [List.setIfInBounds_toArray]); (try simp only [List.set_cons_succ]); (try simp only [List.set_cons_zero])
        refine anyL_step 21 (by kernel_rfl) rfl (fun K hK => ?_)
        go_simp
        refine hK.out _ _ (fun h => absurd h (by decide)) ?_
        clear hK K
        (try simp only [Act.put]); (try simp only [List.setIfInBounds_toArray]); (try simp only [List.set_cons_succ]); (try simp only [List.set_cons_zero])
        refine anyL_step 22 (by kernel_rfl) rfl (fun K hK => ?_)
        go_simp
        refine hK.out _ _ (fun h => absurd h (by decide)) ?_
        clear hK K
        (try simp only [Act.put]); (try simp only [List.setIfInBounds_toArray]); (try simp only [List.set_cons_succ]); (try simp only [List.set_cons_zero])
        refine ⟨by kernel_rfl, ?_⟩
        have hdn := HRT.out.done HSM.out
        simp only [List.length_append, List.length_cons, List.length_nil, Nat.zero_add] at hdn
        rw [HPU.out] at hdn
        have hbr : b0 ≠ r := KindAt.ne (w := w4) (⟨_, _, HS5.out.2.1⟩ : KindAt w4 b0 83) (⟨_, _, HS5.out.1⟩ : KindAt w4 r 79) (by decide)
        have hbb : ((w4.setCell ⟨r, 0, none⟩ (.slice tb ((setL S1).T.length + 1) tcb)).setCell ⟨r, 1, none⟩ (.slice fb ((setL S1).F.length + 1) fcb)).heap[b0]? = some (ptObj q (.slice (some ⟨g, o, none⟩) n sc)) := (heap_setCell_other _ _ _ _ hbr).trans ((heap_setCell_other _ _ _ _ hbr).trans HS5.out.2.1)
        obtain ⟨w6, hw6⟩ : ∃ w6, (w4.setCell ⟨r, 0, none⟩ (.slice tb ((setL S1).T.length + 1) tcb)).setCell ⟨r, 1, none⟩ (.slice fb ((setL S1).F.length + 1) fcb) = w6 := ⟨_, rfl⟩
        rw [hw6] at hdn hbb ⊢
        have HDN := Lib.hid hdn
        have HBB := Lib.hid hbb
        clear hdn hbb hw6 k0 kf k1 kf1 HS5 HRT
        have HLE : Hid (i + 1 ≤ q.T.length) := Lib.hid (by rw [HN.out]; exact hlt)
        have hn5 : n ≤ 500000 := by
          have := HB.out
          have := HN.out
          omega
        go_wp2
        go_roundw
        case rel => exact ⟨i + 1, by go_num, HLE.out, ⟨_, _, _, _, _, _, _, _, HDN.out⟩, HBB.out⟩
        case measure => simp [intOf]; omega
    · obtain rfl : i = n := by have := HN.out; omega
      have hiI : ¬ (i : Int) < (i : Int) := by omega
      have HFIN : Hid (RW V r (addL q.o q.T S) ta1 tc1 fa1 fc1 da1 dc1 xa1 xc1 wr) := Lib.hid (by
        have h := HR.out
        rw [List.take_of_length_le (by have := HN.out; omega)] at h
        exact h)
      clear hR
      go_wp2
      go_end0
      exact ⟨rfl, _, _, _, _, _, _, _, _, HFIN.out⟩

end Go.Proofs.Ytobplffailbkbaa
