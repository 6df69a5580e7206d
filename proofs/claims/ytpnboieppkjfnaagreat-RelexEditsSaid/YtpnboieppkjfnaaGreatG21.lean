/-
  Texts of the proof, put together: LxE.
-/
import Derived.Test.YtpnboieppkjfnaaGreatG20

/-
  pass and endLine of the project, walked.
-/
namespace Go.Proofs.YtpnboieppkjfnaaGreat
open Go.RowKit

theorem Was.cells {E : Env} {i st bg : Nat} {a : Acc} {w : World} (h : Was E i st bg a w) : ∃ c B1 P, (c.F = E.F ∧ c.ch = E.ch ∧ c.sz = E.sz ∧ c.i = i ∧ c.st = st ∧ c.bg = bg) ∧ Big E.W E.g E.L c B1 P a w := by
  obtain ⟨c, B1, P, e1, e2, e3, e4, e5, e6, hb⟩ := h
  exact ⟨c, B1, P, ⟨e1, e2, e3, e4, e5, e6⟩, hb⟩

/-- Whatever turns the place, the state, where it began, and the space. -/
theorem Was.turn {E : Env} {i st bg : Nat} {a : Acc} {w w' : World} {c : WC} {B1 : Nat} {P : List (Value × Ln)} (he : c.F = E.F ∧ c.ch = E.ch ∧ c.sz = E.sz ∧ c.i = i ∧ c.st = st ∧ c.bg = bg) (hb : Big E.W E.g E.L c B1 P a w) {i' st' bg' : Nat} {sp' : Bool} {a' : Acc}
    (hs : Step E.g c { c with i := i', st := st', bg := bg', sp := sp' } w w') (hi : i ≤ i') (ha : a' = { a with sp := sp' }) : Was E i' st' bg' a' w' := by
  obtain ⟨e1, e2, e3, e4, e5, e6⟩ := he
  subst ha
  have hi2 : c.i ≤ i' := by rw [e4]; exact hi
  exact ⟨{ c with i := i', st := st', bg := bg', sp := sp' }, B1, P, e1, e2, e3, rfl, rfl, rfl, hb.step hs ⟨rfl, rfl, rfl, rfl, rfl, rfl⟩ ⟨rfl, rfl, rfl⟩ hb.fr rfl (hb.un0.mono hi2) (hb.un1.mono hi2)⟩

set_option maxRecDepth 100000 in
set_option maxHeartbeats 1600000 in
theorem pass_any {E : Env} {i st bg : Nat} {a : Acc} {w : World} (h : Was E i st bg a w) (n : Nat) (hn : i + n ≤ 1000000) :
    Calls Tryz.prog 128 #[.pointer (some ⟨E.g, 0, none⟩), .int .i64 (n : Int)] w (WasPost E (i + n) 0 bg { a with sp := true }) := by
  obtain ⟨c, B1, P, he, hb⟩ := h.cells
  have k4 := hb.blk.k4
  have k5 := hb.blk.k5
  have k8 := hb.blk.k8
  have z4 := hb.blk.free 4
  have z5 := hb.blk.free 5
  have z8 := hb.blk.free 8
  rw [he.2.2.2.1] at k4
  have HF : Hid (WasPost E (i + n) 0 bg { a with sp := true } (.returned (.tuple #[])) (((w.setCell ⟨E.g, 4, none⟩ (.int .i64 ((i : Int) + (n : Int)))).setCell ⟨E.g, 8, none⟩ (.bool true)).setCell ⟨E.g, 5, none⟩ (.int .i64 0))) := Lib.hid (by
    refine ⟨rfl, Was.turn he hb (sp' := true) ?_ (Nat.le_add_right _ _) rfl⟩
    have s1 := (Step.refl hb.blk).set 4 (.int .i64 ((i : Int) + (n : Int))) { c with i := i + n } rfl
    have s2 := s1.set 8 (.bool true) { c with i := i + n, sp := true } rfl
    have s3 := s2.set 5 (.int .i64 0) { c with i := i + n, sp := true, st := 0 } rfl
    have e : ({ c with i := i + n, st := 0, bg := bg, sp := true } : WC) = { c with i := i + n, sp := true, st := 0 } := by rw [← he.2.2.2.2.2]
    rw [e]
    exact s3)
  clear h he hb
  go_enter Tryz.func128, Tryz.ntmps128
  go_wp2
  go_end0
  exact HF.out

/-- What endLine's great statement loads. -/
def EndS (g : Nat) (fr : Nat) (tv lv : Value) (w : World) : Prop := w.cell? ⟨g, 7, none⟩ = some (.int .i64 (fr : Int)) ∧ w.cell? ⟨g, 9, none⟩ = some tv ∧ w.cell? ⟨g, 10, none⟩ = some lv
def ECis (c : WC) (fr : Nat) (tv lv : Value) : Prop := c.fr = fr ∧ c.tv = tv ∧ c.lv = lv
theorem endS_of {g : Nat} {c : WC} {fr : Nat} {tv lv : Value} {w : World} (h : WAt g c w) (hv : ECis c fr tv lv) : EndS g fr tv lv w := by
  obtain ⟨rfl, rfl, rfl⟩ := hv
  exact ⟨h.k7, h.k9, h.k10⟩

theorem end_fin {E : Env} {i st bg to b n4 cap : Nat} {o : Bool} {c2 : WC} {a : Acc} {w4 : World} (h : PushL E.W E.g E.L c2 (endA a to o) to b n4 cap w4) (hc : c2.F = E.F ∧ c2.ch = E.ch ∧ c2.sz = E.sz ∧ c2.i = i ∧ c2.st = st ∧ c2.bg = bg) :
    Was E i st bg (endA a to o) ((((w4.setCell ⟨E.g, 10, none⟩ (.slice (some ⟨b, 0, none⟩) n4 cap)).setCell ⟨E.g, 7, none⟩ (.int .i64 (to : Int))).setCell ⟨E.g, 8, none⟩ (.bool false)).setCell ⟨E.g, 9, none⟩ (.slice none 0 0)) := by
  obtain ⟨e1, e2, e3, e4, e5, e6⟩ := hc
  obtain ⟨-, B1, P, hb⟩ := h
  exact ⟨{ c2 with lv := .slice (some ⟨b, 0, none⟩) n4 cap, fr := to, sp := false, tv := .slice none 0 0 }, B1, P, e1, e2, e3, e4, e5, e6, hb⟩

set_option maxRecDepth 100000 in
set_option maxHeartbeats 6400000 in
theorem endLine_in {E : Env} {i st bg : Nat} {a : Acc} {w : World} (h : Was E i st bg a w) (o : Bool) (hL : E.L.length ≤ 1000000) (hi : 0 < i) (hlt : i < E.L.length) (hln : a.lines.length ≤ 500000) {to : Nat} (hto : toA E.L E.sz i = to) :
    Calls Tryz.prog 109 #[.pointer (some ⟨E.g, 0, none⟩), .bool o] w (WasPost E i st bg (endA a to o)) := by
  obtain ⟨c2, B2, P2, he, hb⟩ := h.cells
  obtain ⟨ra, rcap, hrv, hr1, hr2, hr3⟩ := hb.row
  obtain ⟨ta, tcap, htv, -⟩ := row_form hb.toks
  obtain ⟨la, lcap, hlv, -⟩ := row_form hb.lines
  have hpn : P2.length = a.lines.length := by rw [← hb.pl, List.length_map]
  rw [hpn] at hlv
  have k1 := hb.blk.k1
  have k2 := hb.blk.k2
  have k4 := hb.blk.k4
  rw [he.2.2.1] at k1
  rw [hrv] at k2
  rw [he.2.2.2.1] at k4
  have hlti : (i : Int) < (E.L.length : Int) := by omega
  obtain ⟨m, rfl⟩ : ∃ m, i = m + 1 := ⟨i - 1, by omega⟩
  obtain ⟨rb, rfl, hrb, -, f2⟩ := hr3 m (by omega)
  have hto2 : rnT E.L m = to := by
    rw [← hto]
    unfold toA
    rw [if_pos hlt, Nat.add_sub_cancel]
  rw [hto2] at f2
  have hm0 : (0 : Int) ≤ (m : Int) := by omega
  have hmi : (m : Int) < (E.L.length : Int) := by omega
  clear hto2 hi
  have HE2 := Lib.hid he
  have HB0 := Lib.hid hb
  have HTV : Hid (ECis c2 a.fr (.slice ta a.toks.length tcap) (.slice la a.lines.length lcap)) := Lib.hid ⟨hb.fr, htv, hlv⟩
  have HLV := Lib.hid hlv
  have HCV := Lib.hid htv
  clear h he hb hrv hr3 htv hlv hpn hto
  go_enter Tryz.func109, Tryz.ntmps109
  go_wp2
  go_quiet (fail)
  obtain ⟨w2, hw2⟩ : ∃ w2, w.drewN nq = w2 := ⟨_, rfl⟩
  have k22 : w2.cell? ⟨E.g, 2, none⟩ = some (.slice (some ⟨rb, 0, none⟩) E.L.length rcap) := by rw [← hw2]; exact k2
  have k42 : w2.cell? ⟨E.g, 4, none⟩ = some (.int .i64 ((m + 1 : Nat) : Int)) := by rw [← hw2]; exact k4
  have f22 : w2.cell? ⟨rb, m * 3 + 2, none⟩ = some (.int .i64 (to : Int)) := by rw [← hw2]; exact f2
  have HB1 := HB0.out.drewN nq
  rw [hw2] at HB1 ⊢
  clear k1 k2 k4 f2 hw2
  go_wp2
  go_quiet (fail)
  obtain ⟨w3, hw3⟩ : ∃ w3, w2.drewN nq = w3 := ⟨_, rfl⟩
  have HB1 := HB1.drewN nq
  rw [hw3] at HB1 ⊢
  have HB := Lib.hid HB1
  clear k22 k42 f22 hw3 HB1
  go_wp2
  have HB2 := HB
  have HSW := endS_of HB2.out.drew.blk HTV.out
  refine region_anyT (EndS E.g a.fr (.slice ta a.toks.length tcap) (.slice la a.lines.length lcap)) 20 (by kernel_rfl) ?_
  refine anyT_take 0 [18, 19, 20] (v := ?_) rfl (by kernel_rfl) (fun _ _ _ h => h) (Or.inl ⟨by rfl, ?_⟩) HSW ?_
  rotate_left
  · (intro w hSw; obtain ⟨hs7, hs9, hs10⟩ := hSw; go_simp; (try with_reducible rfl))
  (try simp only [Act.put]); (try simp only [List.setIfInBounds_toArray]); (try simp only [List.set_cons_succ]); (try simp only [List.set_cons_zero])
  refine anyT_take 1 [2, 3, 4, 17, 18, 19, 20] (v := ?_) rfl (by kernel_rfl) (fun _ _ _ h => h) (Or.inl ⟨by rfl, ?_⟩) HSW ?_
  rotate_left
  · (intro w hSw; obtain ⟨hs7, hs9, hs10⟩ := hSw; go_simp; (try with_reducible rfl))
  (try simp only [Act.put]); (try simp only [List.setIfInBounds_toArray]); (try simp only [List.set_cons_succ]); (try simp only [List.set_cons_zero])
  refine anyT_take 2 [3, 4, 17, 18, 19, 20] (v := ?_) rfl (by kernel_rfl) (fun _ _ _ h => h) (Or.inl ⟨by rfl, ?_⟩) HSW ?_
  rotate_left
  · (intro w hSw; obtain ⟨hs7, hs9, hs10⟩ := hSw; go_simp; (try with_reducible rfl))
  (try simp only [Act.put]); (try simp only [List.setIfInBounds_toArray]); (try simp only [List.set_cons_succ]); (try simp only [List.set_cons_zero])
  refine anyT_take 3 [4, 17, 18, 19, 20] (v := ?_) rfl (by kernel_rfl) (fun _ _ _ h => h) (Or.inl ⟨by rfl, ?_⟩) HSW ?_
  rotate_left
  · (intro w hSw; obtain ⟨hs7, hs9, hs10⟩ := hSw; go_simp; (try with_reducible rfl))
  (try simp only [Act.put]); (try simp only [List.setIfInBounds_toArray]); (try simp only [List.set_cons_succ]); (try simp only [List.set_cons_zero])
  refine anyT_take 4 [17, 18, 19, 20] (v := ?_) rfl (by kernel_rfl) (fun _ _ _ h => h) (Or.inl ⟨by rfl, ?_⟩) HSW ?_
  rotate_left
  · (intro w hSw; obtain ⟨hs7, hs9, hs10⟩ := hSw; go_simp; (try with_reducible rfl))
  (try simp only [Act.put]); (try simp only [List.setIfInBounds_toArray]); (try simp only [List.set_cons_succ]); (try simp only [List.set_cons_zero])
  refine anyT_take 5 [6, 7, 8, 15, 16, 17, 18, 19, 20] (v := ?_) rfl (by kernel_rfl) (fun _ _ _ h => h) (Or.inl ⟨by rfl, ?_⟩) HSW ?_
  rotate_left
  · (intro w hSw; obtain ⟨hs7, hs9, hs10⟩ := hSw; go_simp; (try with_reducible rfl))
  (try simp only [Act.put]); (try simp only [List.setIfInBounds_toArray]); (try simp only [List.set_cons_succ]); (try simp only [List.set_cons_zero])
  refine anyT_take 6 [7, 8, 15, 16, 17, 18, 19, 20] (v := ?_) rfl (by kernel_rfl) (fun _ _ _ h => h) (Or.inl ⟨by rfl, ?_⟩) HSW ?_
  rotate_left
  · (intro w hSw; obtain ⟨hs7, hs9, hs10⟩ := hSw; go_simp; (try with_reducible rfl))
  (try simp only [Act.put]); (try simp only [List.setIfInBounds_toArray]); (try simp only [List.set_cons_succ]); (try simp only [List.set_cons_zero])
  refine anyT_take 7 [8, 15, 16, 17, 18, 19, 20] (v := ?_) rfl (by kernel_rfl) (fun _ _ _ h => h) (Or.inl ⟨by rfl, ?_⟩) HSW ?_
  rotate_left
  · (intro w hSw; obtain ⟨hs7, hs9, hs10⟩ := hSw; go_simp; (try with_reducible rfl))
  (try simp only [Act.put]); (try simp only [List.setIfInBounds_toArray]); (try simp only [List.set_cons_succ]); (try simp only [List.set_cons_zero])
  refine anyT_take 8 [15, 16, 17, 18, 19, 20] (v := ?_) rfl (by kernel_rfl) (fun _ _ _ h => h) (Or.inl ⟨by rfl, ?_⟩) HSW ?_
  rotate_left
  · (intro w hSw; obtain ⟨hs7, hs9, hs10⟩ := hSw; go_simp; (try with_reducible rfl))
  (try simp only [Act.put]); (try simp only [List.setIfInBounds_toArray]); (try simp only [List.set_cons_succ]); (try simp only [List.set_cons_zero])
  refine anyT_take 9 [10, 11, 12, 15, 16, 17, 18, 19, 20] (v := ?_) rfl (by kernel_rfl) (fun _ _ _ h => h) (Or.inl ⟨by rfl, ?_⟩) HSW ?_
  rotate_left
  · (intro w hSw; obtain ⟨hs7, hs9, hs10⟩ := hSw; go_simp; (try with_reducible rfl))
  (try simp only [Act.put]); (try simp only [List.setIfInBounds_toArray]); (try simp only [List.set_cons_succ]); (try simp only [List.set_cons_zero])
  refine anyT_take 10 [11, 12, 15, 16, 17, 18, 19, 20] (v := ?_) rfl (by kernel_rfl) (fun _ _ _ h => h) (Or.inl ⟨by rfl, ?_⟩) HSW ?_
  rotate_left
  · (intro w hSw; obtain ⟨hs7, hs9, hs10⟩ := hSw; go_simp; (try with_reducible rfl))
  (try simp only [Act.put]); (try simp only [List.setIfInBounds_toArray]); (try simp only [List.set_cons_succ]); (try simp only [List.set_cons_zero])
  refine anyT_take 11 [12, 15, 16, 17, 18, 19, 20] (v := ?_) rfl (by kernel_rfl) (fun _ _ _ h => h) (Or.inl ⟨by rfl, ?_⟩) HSW ?_
  rotate_left
  · (intro w hSw; obtain ⟨hs7, hs9, hs10⟩ := hSw; go_simp; (try with_reducible rfl))
  (try simp only [Act.put]); (try simp only [List.setIfInBounds_toArray]); (try simp only [List.set_cons_succ]); (try simp only [List.set_cons_zero])
  refine anyT_take 12 [15, 16, 17, 18, 19, 20] (v := ?_) rfl (by kernel_rfl) (fun _ _ _ h => h) (Or.inl ⟨by rfl, ?_⟩) HSW ?_
  rotate_left
  · (intro w hSw; obtain ⟨hs7, hs9, hs10⟩ := hSw; go_simp; (try with_reducible rfl))
  (try simp only [Act.put]); (try simp only [List.setIfInBounds_toArray]); (try simp only [List.set_cons_succ]); (try simp only [List.set_cons_zero])
  refine anyT_take 13 [15, 16, 17, 18, 19, 20] (v := ?_) rfl (by kernel_rfl) (fun _ _ _ h => h) (Or.inl ⟨by rfl, ?_⟩) HSW ?_
  rotate_left
  · (intro w hSw; obtain ⟨hs7, hs9, hs10⟩ := hSw; go_simp; (try with_reducible rfl))
  (try simp only [Act.put]); (try simp only [List.setIfInBounds_toArray]); (try simp only [List.set_cons_succ]); (try simp only [List.set_cons_zero])
  refine anyT_take 14 [15, 16, 17, 18, 19, 20] (v := ?_) rfl (by kernel_rfl) (fun _ _ _ h => h) (Or.inl ⟨by rfl, ?_⟩) HSW ?_
  rotate_left
  · (intro w hSw; obtain ⟨hs7, hs9, hs10⟩ := hSw; go_simp; (try with_reducible rfl))
  (try simp only [Act.put]); (try simp only [List.setIfInBounds_toArray]); (try simp only [List.set_cons_succ]); (try simp only [List.set_cons_zero])
  refine anyT_take 15 [16, 17, 18, 19, 20] (v := ?_) rfl (by kernel_rfl) (fun _ _ _ h => h) (Or.inl ⟨by rfl, ?_⟩) HSW ?_
  rotate_left
  · (intro w hSw; obtain ⟨hs7, hs9, hs10⟩ := hSw; go_simp; (try with_reducible rfl))
  (try simp only [Act.put]); (try simp only [List.setIfInBounds_toArray]); (try simp only [List.set_cons_succ]); (try simp only [List.set_cons_zero])
  refine anyT_step 16 (by kernel_rfl) rfl (fun K hK => ?_)
  go_simp
  have HB4 := Lib.hid (HB2.out.alloc (.cells #[.slice ta a.toks.length tcap, .int .i64 (a.fr : Int), .int .i64 (to : Int), .bool o] 87))
  have HSW := endS_of HB4.out.blk HTV.out
  refine hK.out _ _ (fun _ => HSW) ?_
  clear hK K
  (try simp only [Act.put]); (try simp only [List.setIfInBounds_toArray]); (try simp only [List.set_cons_succ]); (try simp only [List.set_cons_zero])
  refine anyT_step 17 (by kernel_rfl) rfl (fun K hK => ?_)
  refine step_ex rfl (.tmp 35) (.tmp 47) 36 rfl _ _ _ rfl rfl (Big.pushL2 (W := E.W) (g := E.g) (L := E.L) (c := c2) (B1 := B2) (P := P2) (a := a) (by with_reducible exact HB4.out.drew) HLV.out HCV.out to o (src_row (heap_drew (heap_alloc_new _ _)) rfl rfl) hln) ?_
  intro b n4 cap w4 hp
  have HP2 := Lib.hid hp
  have k97 := hp.1.k7
  have k98 := hp.1.k8
  have k99 := hp.1.k9
  have k910 := hp.1.k10
  have z7 := hp.1.free 7
  have z8 := hp.1.free 8
  have z9 := hp.1.free 9
  have z10 := hp.1.free 10
  have HSW := endS_of hp.1 HTV.out
  clear hp
  refine hK.out _ _ (fun _ => HSW) ?_
  clear hK K
  (try simp only [Act.put]); (try simp only [List.setIfInBounds_toArray]); (try simp only [List.set_cons_succ]); (try simp only [List.set_cons_zero])
  refine anyT_take 18 [19, 20] (v := ?_) rfl (by kernel_rfl) (fun _ _ _ h => h) (Or.inl ⟨by rfl, ?_⟩) HSW ?_
  rotate_left
  · (intro w hSw; obtain ⟨hs7, hs9, hs10⟩ := hSw; go_simp; (try with_reducible rfl))
  (try simp only [Act.put]); (try simp only [List.setIfInBounds_toArray]); (try simp only [List.set_cons_succ]); (try simp only [List.set_cons_zero])
  refine anyT_take 19 [20] (v := ?_) rfl (by kernel_rfl) (fun _ _ _ h => h) (Or.inl ⟨by rfl, ?_⟩) HSW ?_
  rotate_left
  · (intro w hSw; obtain ⟨hs7, hs9, hs10⟩ := hSw; go_simp; (try with_reducible rfl))
  (try simp only [Act.put]); (try simp only [List.setIfInBounds_toArray]); (try simp only [List.set_cons_succ]); (try simp only [List.set_cons_zero])
  refine anyT_step 20 (by kernel_rfl) rfl (fun K hK => ?_)
  go_simp
  refine hK.out _ _ (fun h => absurd rfl h) ?_
  clear hK K
  (try simp only [Act.put]); (try simp only [List.setIfInBounds_toArray]); (try simp only [List.set_cons_succ]); (try simp only [List.set_cons_zero])
  refine anyT_done (by kernel_rfl) ?_ _
  go_wp2
  go_end0
  exact ⟨rfl, end_fin HP2.out HE2.out⟩

set_option maxRecDepth 100000 in
set_option maxHeartbeats 6400000 in
theorem endLine_out {E : Env} {i st bg : Nat} {a : Acc} {w : World} (h : Was E i st bg a w) (o : Bool) (_hL : E.L.length ≤ 1000000) (hlt : ¬ i < E.L.length) (hln : a.lines.length ≤ 500000) {to : Nat} (hto : toA E.L E.sz i = to) :
    Calls Tryz.prog 109 #[.pointer (some ⟨E.g, 0, none⟩), .bool o] w (WasPost E i st bg (endA a to o)) := by
  obtain ⟨c2, B2, P2, he, hb⟩ := h.cells
  obtain ⟨ra, rcap, hrv, hr1, hr2, hr3⟩ := hb.row
  obtain ⟨ta, tcap, htv, -⟩ := row_form hb.toks
  obtain ⟨la, lcap, hlv, -⟩ := row_form hb.lines
  have hpn : P2.length = a.lines.length := by rw [← hb.pl, List.length_map]
  rw [hpn] at hlv
  have k1 := hb.blk.k1
  have k2 := hb.blk.k2
  have k4 := hb.blk.k4
  rw [he.2.2.1] at k1
  rw [hrv] at k2
  rw [he.2.2.2.1] at k4
  have hlti : ¬ (i : Int) < (E.L.length : Int) := by omega
  have hto2 : E.sz = to := by
    rw [← hto]
    unfold toA
    rw [if_neg hlt]
  rw [hto2] at k1
  clear hto2
  have HE2 := Lib.hid he
  have HB0 := Lib.hid hb
  have HTV : Hid (ECis c2 a.fr (.slice ta a.toks.length tcap) (.slice la a.lines.length lcap)) := Lib.hid ⟨hb.fr, htv, hlv⟩
  have HLV := Lib.hid hlv
  have HCV := Lib.hid htv
  clear h he hb hrv hr3 htv hlv hpn hto
  go_enter Tryz.func109, Tryz.ntmps109
  go_wp2
  go_quiet (fail)
  obtain ⟨w3, hw3⟩ : ∃ w3, w.drewN nq = w3 := ⟨_, rfl⟩
  have HB1 := HB0.out.drewN nq
  rw [hw3] at HB1 ⊢
  have HB := Lib.hid HB1
  clear k1 k2 k4 hw3 HB1
  go_wp2
  have HB2 := HB
  have HSW := endS_of HB2.out.drew.blk HTV.out
  refine region_anyT (EndS E.g a.fr (.slice ta a.toks.length tcap) (.slice la a.lines.length lcap)) 20 (by kernel_rfl) ?_
  refine anyT_take 0 [18, 19, 20] (v := ?_) rfl (by kernel_rfl) (fun _ _ _ h => h) (Or.inl ⟨by rfl, ?_⟩) HSW ?_
  rotate_left
  · (intro w hSw; obtain ⟨hs7, hs9, hs10⟩ := hSw; go_simp; (try with_reducible rfl))
  (try simp only [Act.put]); (try simp only [List.setIfInBounds_toArray]); (try simp only [List.set_cons_succ]); (try simp only [List.set_cons_zero])
  refine anyT_take 1 [2, 3, 4, 17, 18, 19, 20] (v := ?_) rfl (by kernel_rfl) (fun _ _ _ h => h) (Or.inl ⟨by rfl, ?_⟩) HSW ?_
  rotate_left
  · (intro w hSw; obtain ⟨hs7, hs9, hs10⟩ := hSw; go_simp; (try with_reducible rfl))
  (try simp only [Act.put]); (try simp only [List.setIfInBounds_toArray]); (try simp only [List.set_cons_succ]); (try simp only [List.set_cons_zero])
  refine anyT_take 2 [3, 4, 17, 18, 19, 20] (v := ?_) rfl (by kernel_rfl) (fun _ _ _ h => h) (Or.inl ⟨by rfl, ?_⟩) HSW ?_
  rotate_left
  · (intro w hSw; obtain ⟨hs7, hs9, hs10⟩ := hSw; go_simp; (try with_reducible rfl))
  (try simp only [Act.put]); (try simp only [List.setIfInBounds_toArray]); (try simp only [List.set_cons_succ]); (try simp only [List.set_cons_zero])
  refine anyT_take 3 [4, 17, 18, 19, 20] (v := ?_) rfl (by kernel_rfl) (fun _ _ _ h => h) (Or.inl ⟨by rfl, ?_⟩) HSW ?_
  rotate_left
  · (intro w hSw; obtain ⟨hs7, hs9, hs10⟩ := hSw; go_simp; (try with_reducible rfl))
  (try simp only [Act.put]); (try simp only [List.setIfInBounds_toArray]); (try simp only [List.set_cons_succ]); (try simp only [List.set_cons_zero])
  refine anyT_take 4 [17, 18, 19, 20] (v := ?_) rfl (by kernel_rfl) (fun _ _ _ h => h) (Or.inl ⟨by rfl, ?_⟩) HSW ?_
  rotate_left
  · (intro w hSw; obtain ⟨hs7, hs9, hs10⟩ := hSw; go_simp; (try with_reducible rfl))
  (try simp only [Act.put]); (try simp only [List.setIfInBounds_toArray]); (try simp only [List.set_cons_succ]); (try simp only [List.set_cons_zero])
  refine anyT_take 5 [6, 7, 8, 15, 16, 17, 18, 19, 20] (v := ?_) rfl (by kernel_rfl) (fun _ _ _ h => h) (Or.inl ⟨by rfl, ?_⟩) HSW ?_
  rotate_left
  · (intro w hSw; obtain ⟨hs7, hs9, hs10⟩ := hSw; go_simp; (try with_reducible rfl))
  (try simp only [Act.put]); (try simp only [List.setIfInBounds_toArray]); (try simp only [List.set_cons_succ]); (try simp only [List.set_cons_zero])
  refine anyT_take 6 [7, 8, 15, 16, 17, 18, 19, 20] (v := ?_) rfl (by kernel_rfl) (fun _ _ _ h => h) (Or.inl ⟨by rfl, ?_⟩) HSW ?_
  rotate_left
  · (intro w hSw; obtain ⟨hs7, hs9, hs10⟩ := hSw; go_simp; (try with_reducible rfl))
  (try simp only [Act.put]); (try simp only [List.setIfInBounds_toArray]); (try simp only [List.set_cons_succ]); (try simp only [List.set_cons_zero])
  refine anyT_take 7 [8, 15, 16, 17, 18, 19, 20] (v := ?_) rfl (by kernel_rfl) (fun _ _ _ h => h) (Or.inl ⟨by rfl, ?_⟩) HSW ?_
  rotate_left
  · (intro w hSw; obtain ⟨hs7, hs9, hs10⟩ := hSw; go_simp; (try with_reducible rfl))
  (try simp only [Act.put]); (try simp only [List.setIfInBounds_toArray]); (try simp only [List.set_cons_succ]); (try simp only [List.set_cons_zero])
  refine anyT_take 8 [15, 16, 17, 18, 19, 20] (v := ?_) rfl (by kernel_rfl) (fun _ _ _ h => h) (Or.inl ⟨by rfl, ?_⟩) HSW ?_
  rotate_left
  · (intro w hSw; obtain ⟨hs7, hs9, hs10⟩ := hSw; go_simp; (try with_reducible rfl))
  (try simp only [Act.put]); (try simp only [List.setIfInBounds_toArray]); (try simp only [List.set_cons_succ]); (try simp only [List.set_cons_zero])
  refine anyT_take 9 [10, 11, 12, 15, 16, 17, 18, 19, 20] (v := ?_) rfl (by kernel_rfl) (fun _ _ _ h => h) (Or.inl ⟨by rfl, ?_⟩) HSW ?_
  rotate_left
  · (intro w hSw; obtain ⟨hs7, hs9, hs10⟩ := hSw; go_simp; (try with_reducible rfl))
  (try simp only [Act.put]); (try simp only [List.setIfInBounds_toArray]); (try simp only [List.set_cons_succ]); (try simp only [List.set_cons_zero])
  refine anyT_take 10 [11, 12, 15, 16, 17, 18, 19, 20] (v := ?_) rfl (by kernel_rfl) (fun _ _ _ h => h) (Or.inl ⟨by rfl, ?_⟩) HSW ?_
  rotate_left
  · (intro w hSw; obtain ⟨hs7, hs9, hs10⟩ := hSw; go_simp; (try with_reducible rfl))
  (try simp only [Act.put]); (try simp only [List.setIfInBounds_toArray]); (try simp only [List.set_cons_succ]); (try simp only [List.set_cons_zero])
  refine anyT_take 11 [12, 15, 16, 17, 18, 19, 20] (v := ?_) rfl (by kernel_rfl) (fun _ _ _ h => h) (Or.inl ⟨by rfl, ?_⟩) HSW ?_
  rotate_left
  · (intro w hSw; obtain ⟨hs7, hs9, hs10⟩ := hSw; go_simp; (try with_reducible rfl))
  (try simp only [Act.put]); (try simp only [List.setIfInBounds_toArray]); (try simp only [List.set_cons_succ]); (try simp only [List.set_cons_zero])
  refine anyT_take 12 [15, 16, 17, 18, 19, 20] (v := ?_) rfl (by kernel_rfl) (fun _ _ _ h => h) (Or.inl ⟨by rfl, ?_⟩) HSW ?_
  rotate_left
  · (intro w hSw; obtain ⟨hs7, hs9, hs10⟩ := hSw; go_simp; (try with_reducible rfl))
  (try simp only [Act.put]); (try simp only [List.setIfInBounds_toArray]); (try simp only [List.set_cons_succ]); (try simp only [List.set_cons_zero])
  refine anyT_take 13 [15, 16, 17, 18, 19, 20] (v := ?_) rfl (by kernel_rfl) (fun _ _ _ h => h) (Or.inl ⟨by rfl, ?_⟩) HSW ?_
  rotate_left
  · (intro w hSw; obtain ⟨hs7, hs9, hs10⟩ := hSw; go_simp; (try with_reducible rfl))
  (try simp only [Act.put]); (try simp only [List.setIfInBounds_toArray]); (try simp only [List.set_cons_succ]); (try simp only [List.set_cons_zero])
  refine anyT_take 14 [15, 16, 17, 18, 19, 20] (v := ?_) rfl (by kernel_rfl) (fun _ _ _ h => h) (Or.inl ⟨by rfl, ?_⟩) HSW ?_
  rotate_left
  · (intro w hSw; obtain ⟨hs7, hs9, hs10⟩ := hSw; go_simp; (try with_reducible rfl))
  (try simp only [Act.put]); (try simp only [List.setIfInBounds_toArray]); (try simp only [List.set_cons_succ]); (try simp only [List.set_cons_zero])
  refine anyT_take 15 [16, 17, 18, 19, 20] (v := ?_) rfl (by kernel_rfl) (fun _ _ _ h => h) (Or.inl ⟨by rfl, ?_⟩) HSW ?_
  rotate_left
  · (intro w hSw; obtain ⟨hs7, hs9, hs10⟩ := hSw; go_simp; (try with_reducible rfl))
  (try simp only [Act.put]); (try simp only [List.setIfInBounds_toArray]); (try simp only [List.set_cons_succ]); (try simp only [List.set_cons_zero])
  refine anyT_step 16 (by kernel_rfl) rfl (fun K hK => ?_)
  go_simp
  have HB4 := Lib.hid (HB2.out.alloc (.cells #[.slice ta a.toks.length tcap, .int .i64 (a.fr : Int), .int .i64 (to : Int), .bool o] 87))
  have HSW := endS_of HB4.out.blk HTV.out
  refine hK.out _ _ (fun _ => HSW) ?_
  clear hK K
  (try simp only [Act.put]); (try simp only [List.setIfInBounds_toArray]); (try simp only [List.set_cons_succ]); (try simp only [List.set_cons_zero])
  refine anyT_step 17 (by kernel_rfl) rfl (fun K hK => ?_)
  refine step_ex rfl (.tmp 35) (.tmp 47) 36 rfl _ _ _ rfl rfl (Big.pushL2 (W := E.W) (g := E.g) (L := E.L) (c := c2) (B1 := B2) (P := P2) (a := a) (by with_reducible exact HB4.out.drew) HLV.out HCV.out to o (src_row (heap_drew (heap_alloc_new _ _)) rfl rfl) hln) ?_
  intro b n4 cap w4 hp
  have HP2 := Lib.hid hp
  have k97 := hp.1.k7
  have k98 := hp.1.k8
  have k99 := hp.1.k9
  have k910 := hp.1.k10
  have z7 := hp.1.free 7
  have z8 := hp.1.free 8
  have z9 := hp.1.free 9
  have z10 := hp.1.free 10
  have HSW := endS_of hp.1 HTV.out
  clear hp
  refine hK.out _ _ (fun _ => HSW) ?_
  clear hK K
  (try simp only [Act.put]); (try simp only [List.setIfInBounds_toArray]); (try simp only [List.set_cons_succ]); (try simp only [List.set_cons_zero])
  refine anyT_take 18 [19, 20] (v := ?_) rfl (by kernel_rfl) (fun _ _ _ h => h) (Or.inl ⟨by rfl, ?_⟩) HSW ?_
  rotate_left
  · (intro w hSw; obtain ⟨hs7, hs9, hs10⟩ := hSw; go_simp; (try with_reducible rfl))
  (try simp only [Act.put]); (try simp only [List.setIfInBounds_toArray]); (try simp only [List.set_cons_succ]); (try simp only [List.set_cons_zero])
  refine anyT_take 19 [20] (v := ?_) rfl (by kernel_rfl) (fun _ _ _ h => h) (Or.inl ⟨by rfl, ?_⟩) HSW ?_
  rotate_left
  · (intro w hSw; obtain ⟨hs7, hs9, hs10⟩ := hSw; go_simp; (try with_reducible rfl))
  (try simp only [Act.put]); (try simp only [List.setIfInBounds_toArray]); (try simp only [List.set_cons_succ]); (try simp only [List.set_cons_zero])
  refine anyT_step 20 (by kernel_rfl) rfl (fun K hK => ?_)
  go_simp
  refine hK.out _ _ (fun h => absurd rfl h) ?_
  clear hK K
  (try simp only [Act.put]); (try simp only [List.setIfInBounds_toArray]); (try simp only [List.set_cons_succ]); (try simp only [List.set_cons_zero])
  refine anyT_done (by kernel_rfl) ?_ _
  go_wp2
  go_end0
  exact ⟨rfl, end_fin HP2.out HE2.out⟩

theorem endLine_any {E : Env} {i st bg : Nat} {a : Acc} {w : World} (h : Was E i st bg a w) (o : Bool) (hL : E.L.length ≤ 1000000) (hi : 0 < i) (hln : a.lines.length ≤ 500000) :
    Calls Tryz.prog 109 #[.pointer (some ⟨E.g, 0, none⟩), .bool o] w (WasPost E i st bg (endA a (toA E.L E.sz i) o)) := by
  by_cases hlt : i < E.L.length
  · exact endLine_in h o hL hi hlt hln rfl
  · exact endLine_out h o hL hlt hln rfl

end Go.Proofs.YtpnboieppkjfnaaGreat
