/-
  Texts of the proof, put together: LxStep.
-/
import Derived.Test.YtpnboieppkjfnaaGreatG21

/-
  step of the project, walked: state by state.
-/
namespace Go.Proofs.YtpnboieppkjfnaaGreat
open Go.RowKit

theorem Was.k5 {E : Env} {i st bg : Nat} {a : Acc} {w : World} (h : Was E i st bg a w) : w.cell? ⟨E.g, 5, none⟩ = some (.int .i64 (st : Int)) := by
  obtain ⟨c, B1, P, e1, e2, e3, e4, e5, e6, hb⟩ := h
  rw [← e5]
  exact hb.blk.k5
theorem Was.k6 {E : Env} {i st bg : Nat} {a : Acc} {w : World} (h : Was E i st bg a w) : w.cell? ⟨E.g, 6, none⟩ = some (.int .i64 (bg : Int)) := by
  obtain ⟨c, B1, P, e1, e2, e3, e4, e5, e6, hb⟩ := h
  rw [← e6]
  exact hb.blk.k6
theorem Was.free {E : Env} {i st bg : Nat} {a : Acc} {w : World} (h : Was E i st bg a w) (k : Nat) : w.frozen? ⟨E.g, k, none⟩ = false := by
  obtain ⟨c, B1, P, e1, e2, e3, e4, e5, e6, hb⟩ := h
  exact hb.blk.free k
theorem Was.setAt {E : Env} {i st bg : Nat} {a : Acc} {w : World} (h : Was E i st bg a w) (j : Nat) (hj : i ≤ j) : Was E j st bg a (w.setCell ⟨E.g, 4, none⟩ (.int .i64 (j : Int))) := by
  obtain ⟨c, B1, P, ⟨e1, e2, e3, e4, e5, e6⟩, hb⟩ := h.cells
  have hi : c.i ≤ j := by omega
  exact ⟨{ c with i := j }, B1, P, e1, e2, e3, rfl, e5, e6, hb.step ((Step.refl hb.blk).set 4 (.int .i64 (j : Int)) _ rfl) ⟨rfl, rfl, rfl, rfl, rfl, rfl⟩ ⟨rfl, rfl, rfl⟩ hb.fr hb.sp (hb.un0.mono hi) (hb.un1.mono hi)⟩
theorem Was.setSt {E : Env} {i st bg : Nat} {a : Acc} {w : World} (h : Was E i st bg a w) (s : Nat) : Was E i s bg a (w.setCell ⟨E.g, 5, none⟩ (.int .i64 (s : Int))) := by
  obtain ⟨c, B1, P, ⟨e1, e2, e3, e4, e5, e6⟩, hb⟩ := h.cells
  exact ⟨{ c with st := s }, B1, P, e1, e2, e3, e4, rfl, e6, hb.step ((Step.refl hb.blk).set 5 (.int .i64 (s : Int)) _ rfl) ⟨rfl, rfl, rfl, rfl, rfl, rfl⟩ ⟨rfl, rfl, rfl⟩ hb.fr hb.sp hb.un0 hb.un1⟩
theorem Was.setBg {E : Env} {i st bg : Nat} {a : Acc} {w : World} (h : Was E i st bg a w) (s : Nat) : Was E i st s a (w.setCell ⟨E.g, 6, none⟩ (.int .i64 (s : Int))) := by
  obtain ⟨c, B1, P, ⟨e1, e2, e3, e4, e5, e6⟩, hb⟩ := h.cells
  exact ⟨{ c with bg := s }, B1, P, e1, e2, e3, e4, e5, rfl, hb.step ((Step.refl hb.blk).set 6 (.int .i64 (s : Int)) _ rfl) ⟨rfl, rfl, rfl, rfl, rfl, rfl⟩ ⟨rfl, rfl, rfl⟩ hb.fr hb.sp hb.un0 hb.un1⟩
theorem Was.drew {E : Env} {i st bg : Nat} {a : Acc} {w : World} (h : Was E i st bg a w) : Was E i st bg a w.drew := by
  obtain ⟨c, B1, P, e1, e2, e3, e4, e5, e6, hb⟩ := h
  exact ⟨c, B1, P, e1, e2, e3, e4, e5, e6, hb.drew⟩

theorem begins_is {s : ByteArray} (hs : s.size ≤ 1000000) (h0 : 0 < s.size) {n : Nat} (hn : begN s.data.toList = n) (W : World) : Calls Tryz.prog 126 #[.string s] W (NatPost n W) := hn ▸ begins_any s W hs h0

/-- The rest, from a place on. -/
theorem rest_of {E : Env} {i st bg : Nat} {a : Acc} {w : World} (h : Was E i st bg a w) : ∃ R : ByteArray, E.ch.extract i E.ch.size = R ∧ R.size = E.L.length - i ∧ R.data.toList = (bytesOf E.L).drop i := by
  obtain ⟨h1, h2⟩ := h.size
  exact ⟨_, rfl, by rw [ext_size, h1], by rw [ext_end, h2]⟩

set_option maxRecDepth 100000 in
set_option maxHeartbeats 3200000 in
theorem step_begin {E : Env} {i bg : Nat} {a : Acc} {w : World} (h : Was E i 0 bg a w) (hL : E.L.length ≤ 400000) (hi : i < E.L.length)  :
    Calls Tryz.prog 107 #[.pointer (some ⟨E.g, 0, none⟩)] w (WasPost E i (begN ((bytesOf E.L).drop i)) i a) := by
  obtain ⟨R, hR, hRs, hRl⟩ := rest_of h
  have hcs := h.size.1
  have hii : (i : Int) ≤ (E.ch.size : Int) := by omega
  have hi0 : (0 : Int) ≤ (i : Int) := by omega
  have hR0 : 0 < R.size := by omega
  have hR0i : (0 : Int) < (R.size : Int) := by omega
  have k3 := h.k3
  have k4 := h.k4
  have k5 : w.cell? ⟨E.g, 5, none⟩ = some (.int .i64 0) := h.k5
  have HR := Lib.hid hR
  have HW := Lib.hid h
  obtain ⟨s, hs⟩ : ∃ s, begN ((bytesOf E.L).drop i) = s := ⟨_, rfl⟩
  have HBG := Lib.hid (begins_is (s := R) (n := s) (by omega) hR0 (by rw [hRl]; exact hs))
  rw [hs]
  clear hs
  clear h hR hRl hcs hRs
  go_enter Tryz.func107, Tryz.ntmps107
  go_wp2
  go_quiet (fail)
  rw [HR.out]
  obtain ⟨w2, hw2⟩ : ∃ w2, w.drewN nq = w2 := ⟨_, rfl⟩
  have h2 := HW.out.drewN nq
  rw [hw2] at h2 ⊢
  have k42 := h2.k4
  have k52 : w2.cell? ⟨E.g, 5, none⟩ = some (.int .i64 0) := h2.k5
  have k62 := h2.k6
  have z4 := h2.free 4
  have z5 := h2.free 5
  have z6 := h2.free 6
  have H2 := Lib.hid h2
  clear k3 k4 k5 hw2 h2
  go_wp2
  go_region_held3 (fun w' => w'.cell? ⟨E.g, 4, none⟩ = some (.int .i64 (i : Int)))
    (first | (with_reducible exact (H2.out.setSt s).drew.k4) | (with_reducible exact (H2.out.setBg i).drew.k4) | (with_reducible exact ((H2.out.setSt s).setBg i).drew.k4) | (with_reducible exact ((H2.out.setBg i).setSt s).drew.k4) | go_keep)
    (first | (go_at_call 126; (with_reducible refine (HBG.out _).mono ?_); rintro e w' ⟨rfl, rfl⟩))
  all_goals go_wp2
  all_goals go_end0
  all_goals first
    | exact ⟨rfl, (H2.out.drew.setSt s).setBg i⟩
    | exact ⟨rfl, (H2.out.drew.setBg i).setSt s⟩
    | exact ⟨rfl, ((H2.out.setSt s).setBg i).drew⟩
    | exact ⟨rfl, ((H2.out.setBg i).setSt s).drew⟩

set_option maxRecDepth 100000 in
set_option maxHeartbeats 3200000 in
theorem step_take {E : Env} {i bg : Nat} {a : Acc} {w : World} (h : Was E i 1 bg a w) (hL : E.L.length ≤ 400000) (hi : i < E.L.length) (hN : Nl (bytesOf E.L)) (h10 : (bytesOf E.L).getD i 0 ≠ 10) {k n : Nat} (ht : tok ((bytesOf E.L).drop i) = (k, n)) (hk : k ≤ 100) (htk : a.toks.length ≤ 500000) (hdg : a.diags.length ≤ 500000) :
    Calls Tryz.prog 107 #[.pointer (some ⟨E.g, 0, none⟩)] w (WasPost E (i + n) 0 bg (takeA E.L a k i n)) := by
  obtain ⟨R, hR, hRs, hRl⟩ := rest_of h
  have hcs := h.size.1
  have hii : (i : Int) ≤ (E.ch.size : Int) := by omega
  have hi0 : (0 : Int) ≤ (i : Int) := by omega
  have hR0 : 0 < R.size := by omega
  have hR0i : (0 : Int) < (R.size : Int) := by omega
  have k3 := h.k3
  have k4 := h.k4
  have k5 : w.cell? ⟨E.g, 5, none⟩ = some (.int .i64 1) := h.k5
  have HR := Lib.hid hR
  have HW := Lib.hid h
  have HT := Lib.hid (fun (X : World) (hX : Was E i 1 bg a X) => wtake_any hX (by omega) hN hi h10 ht hk htk hdg)
  clear hN h10 ht
  clear h hR hRl hcs hRs
  go_enter Tryz.func107, Tryz.ntmps107
  go_wp2
  go_quiet (fail)
  rw [HR.out]
  obtain ⟨w2, hw2⟩ : ∃ w2, w.drewN nq = w2 := ⟨_, rfl⟩
  have h2 := HW.out.drewN nq
  rw [hw2] at h2 ⊢
  have k42 := h2.k4
  have k52 : w2.cell? ⟨E.g, 5, none⟩ = some (.int .i64 1) := h2.k5
  have k62 := h2.k6
  have z4 := h2.free 4
  have z5 := h2.free 5
  have z6 := h2.free 6
  have H2 := Lib.hid h2
  clear k3 k4 k5 hw2 h2
  go_wp2_with (go_at_call 127; (with_reducible refine (HT.out _ H2.out).mono ?_); rintro e w3 ⟨rfl, h3⟩; have k53 := h3.k5; have z53 := h3.free 5; have H3 := Lib.hid h3; clear h3)
  go_end0
  exact ⟨rfl, H3.out.setSt 0⟩

set_option maxRecDepth 100000 in
set_option maxHeartbeats 3200000 in
theorem step_end {E : Env} {i bg : Nat} {a : Acc} {w : World} (h : Was E i 2 bg a w) (hL : E.L.length ≤ 400000) (hi : i < E.L.length) (hln : a.lines.length ≤ 500000) :
    Calls Tryz.prog 107 #[.pointer (some ⟨E.g, 0, none⟩)] w (WasPost E (i + 1) 0 bg (endA a (toA E.L E.sz (i + 1)) false)) := by
  obtain ⟨R, hR, hRs, hRl⟩ := rest_of h
  have hcs := h.size.1
  have hii : (i : Int) ≤ (E.ch.size : Int) := by omega
  have hi0 : (0 : Int) ≤ (i : Int) := by omega
  have hR0 : 0 < R.size := by omega
  have hR0i : (0 : Int) < (R.size : Int) := by omega
  have k3 := h.k3
  have k4 := h.k4
  have k5 : w.cell? ⟨E.g, 5, none⟩ = some (.int .i64 2) := h.k5
  have HR := Lib.hid hR
  have HW := Lib.hid h
  have HT : Hid (∀ X : World, Was E (i + 1) 2 bg a X → Calls Tryz.prog 109 #[.pointer (some ⟨E.g, 0, none⟩), .bool false] X (WasPost E (i + 1) 2 bg (endA a (toA E.L E.sz (i + 1)) false))) := Lib.hid (fun X hX => endLine_any hX false (by omega) (Nat.succ_pos i) hln)
  have HA : Hid (∀ X : World, Was E i 2 bg a X → Was E (i + 1) 2 bg a (X.setCell ⟨E.g, 4, none⟩ (.int .i64 ((i : Int) + 1)))) := Lib.hid (fun X hX => hX.setAt (i + 1) (Nat.le_succ i))
  clear h hR hRl hcs hRs
  go_enter Tryz.func107, Tryz.ntmps107
  go_wp2
  go_quiet (fail)
  rw [HR.out]
  obtain ⟨w2, hw2⟩ : ∃ w2, w.drewN nq = w2 := ⟨_, rfl⟩
  have h2 := HW.out.drewN nq
  rw [hw2] at h2 ⊢
  have k42 := h2.k4
  have k52 : w2.cell? ⟨E.g, 5, none⟩ = some (.int .i64 2) := h2.k5
  have k62 := h2.k6
  have z4 := h2.free 4
  have z5 := h2.free 5
  have z6 := h2.free 6
  have H2 := Lib.hid h2
  clear k3 k4 k5 hw2 h2
  go_wp2_with (go_at_call 109; (with_reducible refine (HT.out _ (HA.out _ H2.out)).mono ?_); rintro e w3 ⟨rfl, h3⟩; have k53 := h3.k5; have z53 := h3.free 5; have H3 := Lib.hid h3; clear h3)
  go_end0
  exact ⟨rfl, H3.out.setSt 0⟩

set_option maxRecDepth 100000 in
set_option maxHeartbeats 3200000 in
theorem step_blank {E : Env} {i bg : Nat} {a : Acc} {w : World} (h : Was E i 3 bg a w) (hL : E.L.length ≤ 400000) (hi : i < E.L.length)  :
    Calls Tryz.prog 107 #[.pointer (some ⟨E.g, 0, none⟩)] w (WasPost E (i + 1) 0 bg { a with sp := true }) := by
  obtain ⟨R, hR, hRs, hRl⟩ := rest_of h
  have hcs := h.size.1
  have hii : (i : Int) ≤ (E.ch.size : Int) := by omega
  have hi0 : (0 : Int) ≤ (i : Int) := by omega
  have hR0 : 0 < R.size := by omega
  have hR0i : (0 : Int) < (R.size : Int) := by omega
  have k3 := h.k3
  have k4 := h.k4
  have k5 : w.cell? ⟨E.g, 5, none⟩ = some (.int .i64 3) := h.k5
  have HR := Lib.hid hR
  have HW := Lib.hid h
  have HT : Hid (∀ X : World, Was E i 3 bg a X → Calls Tryz.prog 128 #[.pointer (some ⟨E.g, 0, none⟩), .int .i64 1] X (WasPost E (i + 1) 0 bg { a with sp := true })) := Lib.hid (fun X hX => pass_any hX 1 (by omega))
  clear h hR hRl hcs hRs
  go_enter Tryz.func107, Tryz.ntmps107
  go_wp2
  go_quiet (fail)
  rw [HR.out]
  obtain ⟨w2, hw2⟩ : ∃ w2, w.drewN nq = w2 := ⟨_, rfl⟩
  have h2 := HW.out.drewN nq
  rw [hw2] at h2 ⊢
  have k42 := h2.k4
  have k52 : w2.cell? ⟨E.g, 5, none⟩ = some (.int .i64 3) := h2.k5
  have k62 := h2.k6
  have z4 := h2.free 4
  have z5 := h2.free 5
  have z6 := h2.free 6
  have H2 := Lib.hid h2
  clear k3 k4 k5 hw2 h2
  go_wp2_with (go_at_call 128; (with_reducible refine (HT.out _ H2.out).mono ?_); rintro e w3 ⟨rfl, h3⟩; have H3 := Lib.hid h3; clear h3)
  go_end0
  exact ⟨rfl, H3.out⟩

set_option maxRecDepth 100000 in
set_option maxHeartbeats 3200000 in
theorem step_remEnd {E : Env} {i bg : Nat} {a : Acc} {w : World} (h : Was E i 4 bg a w) (hL : E.L.length ≤ 400000) (hi : i < E.L.length) (h10 : (bytesOf E.L).getD i 0 = 10) :
    Calls Tryz.prog 107 #[.pointer (some ⟨E.g, 0, none⟩)] w (WasPost E i 0 bg { a with sp := true }) := by
  obtain ⟨R, hR, hRs, hRl⟩ := rest_of h
  have hcs := h.size.1
  have hii : (i : Int) ≤ (E.ch.size : Int) := by omega
  have hi0 : (0 : Int) ≤ (i : Int) := by omega
  have hR0 : 0 < R.size := by omega
  have hR0i : (0 : Int) < (R.size : Int) := by omega
  have k3 := h.k3
  have k4 := h.k4
  have k5 : w.cell? ⟨E.g, 5, none⟩ = some (.int .i64 4) := h.k5
  have HR := Lib.hid hR
  have HW := Lib.hid h
  have hg0 := get_byte R 0 hR0
  rw [hRl, getD_drop, Nat.add_zero] at hg0
  have hb : (((R[0].toNat : Nat) : Int) == 10) = true := by rw [← hg0, h10]; rfl
  have HT : Hid (∀ X : World, Was E i 4 bg a X → Calls Tryz.prog 128 #[.pointer (some ⟨E.g, 0, none⟩), .int .i64 0] X (WasPost E i 0 bg { a with sp := true })) := Lib.hid (fun X hX => pass_any hX 0 (by omega))
  clear hg0 h10
  clear h hR hRl hcs hRs
  go_enter Tryz.func107, Tryz.ntmps107
  go_wp2
  go_quiet (fail)
  rw [HR.out]
  obtain ⟨w2, hw2⟩ : ∃ w2, w.drewN nq = w2 := ⟨_, rfl⟩
  have h2 := HW.out.drewN nq
  rw [hw2] at h2 ⊢
  have k42 := h2.k4
  have k52 : w2.cell? ⟨E.g, 5, none⟩ = some (.int .i64 4) := h2.k5
  have k62 := h2.k6
  have z4 := h2.free 4
  have z5 := h2.free 5
  have z6 := h2.free 6
  have H2 := Lib.hid h2
  clear k3 k4 k5 hw2 h2
  go_wp2_with (go_at_call 128; (with_reducible refine (HT.out _ H2.out).mono ?_); rintro e w3 ⟨rfl, h3⟩; have H3 := Lib.hid h3; clear h3)
  go_end0
  exact ⟨rfl, H3.out⟩

set_option maxRecDepth 100000 in
set_option maxHeartbeats 3200000 in
theorem step_remOn {E : Env} {i bg : Nat} {a : Acc} {w : World} (h : Was E i 4 bg a w) (hL : E.L.length ≤ 400000) (hi : i < E.L.length) (h10 : (bytesOf E.L).getD i 0 ≠ 10) :
    Calls Tryz.prog 107 #[.pointer (some ⟨E.g, 0, none⟩)] w (WasPost E (i + 1) 4 bg a) := by
  obtain ⟨R, hR, hRs, hRl⟩ := rest_of h
  have hcs := h.size.1
  have hii : (i : Int) ≤ (E.ch.size : Int) := by omega
  have hi0 : (0 : Int) ≤ (i : Int) := by omega
  have hR0 : 0 < R.size := by omega
  have hR0i : (0 : Int) < (R.size : Int) := by omega
  have k3 := h.k3
  have k4 := h.k4
  have k5 : w.cell? ⟨E.g, 5, none⟩ = some (.int .i64 4) := h.k5
  have HR := Lib.hid hR
  have HW := Lib.hid h
  have hg0 := get_byte R 0 hR0
  rw [hRl, getD_drop, Nat.add_zero] at hg0
  have hb : (((R[0].toNat : Nat) : Int) == 10) = false := byte_neB (n := 10) (by omega) (by rw [← hg0]; exact h10)
  have HA : Hid (∀ X : World, Was E i 4 bg a X → Was E (i + 1) 4 bg a (X.setCell ⟨E.g, 4, none⟩ (.int .i64 ((i : Int) + 1)))) := Lib.hid (fun X hX => hX.setAt (i + 1) (Nat.le_succ i))
  clear hg0 h10
  clear h hR hRl hcs hRs
  go_enter Tryz.func107, Tryz.ntmps107
  go_wp2
  go_quiet (fail)
  rw [HR.out]
  obtain ⟨w2, hw2⟩ : ∃ w2, w.drewN nq = w2 := ⟨_, rfl⟩
  have h2 := HW.out.drewN nq
  rw [hw2] at h2 ⊢
  have k42 := h2.k4
  have k52 : w2.cell? ⟨E.g, 5, none⟩ = some (.int .i64 4) := h2.k5
  have k62 := h2.k6
  have z4 := h2.free 4
  have z5 := h2.free 5
  have z6 := h2.free 6
  have H2 := Lib.hid h2
  clear k3 k4 k5 hw2 h2
  go_wp2
  go_end0
  exact ⟨rfl, HA.out _ H2.out⟩

set_option maxRecDepth 100000 in
set_option maxHeartbeats 3200000 in
theorem step_comEnd {E : Env} {i bg : Nat} {a : Acc} {w : World} (h : Was E i 5 bg a w) (hL : E.L.length ≤ 400000) (hi : i < E.L.length) (hbg : bg + 2 ≤ i) (hc : (bytesOf E.L).getD i 0 = 42 ∧ (bytesOf E.L).getD (i + 1) 0 = 47) :
    Calls Tryz.prog 107 #[.pointer (some ⟨E.g, 0, none⟩)] w (WasPost E (i + 2) 0 bg { a with sp := true }) := by
  obtain ⟨R, hR, hRs, hRl⟩ := rest_of h
  have hcs := h.size.1
  have hii : (i : Int) ≤ (E.ch.size : Int) := by omega
  have hi0 : (0 : Int) ≤ (i : Int) := by omega
  have hR0 : 0 < R.size := by omega
  have hR0i : (0 : Int) < (R.size : Int) := by omega
  have k3 := h.k3
  have k4 := h.k4
  have k5 : w.cell? ⟨E.g, 5, none⟩ = some (.int .i64 5) := h.k5
  have HR := Lib.hid hR
  have HW := Lib.hid h
  have hpx := hasPrefix2 (s := R) (a := 42) (b := 47) (by decide) (by decide)
  rw [hRl, getD_drop, getD_drop, Nat.add_zero] at hpx
  rw [decide_eq_true hc] at hpx
  have HP := Lib.hid (fun W => prefix_is (s := R) (p := ⟨#[42, 47]⟩) (b := true) (by show Lib.hasPrefix R.data.toList [42, 47] = true; rw [hRl]; exact hpx) W)
  have HT : Hid (∀ X : World, Was E i 5 bg a X → Calls Tryz.prog 128 #[.pointer (some ⟨E.g, 0, none⟩), .int .i64 2] X (WasPost E (i + 2) 0 bg { a with sp := true })) := Lib.hid (fun X hX => pass_any hX 2 (by omega))
  have hbi : (bg : Int) + 2 ≤ (i : Int) := by omega
  have hbw : IntKind.i64.wrap ((bg : Int) + 2) = (bg : Int) + 2 := IntWalk.i64_in _ (by omega)
  clear hpx hc
  clear h hR hRl hcs hRs
  go_enter Tryz.func107, Tryz.ntmps107
  go_wp2
  go_quiet (fail)
  rw [HR.out]
  obtain ⟨w2, hw2⟩ : ∃ w2, w.drewN nq = w2 := ⟨_, rfl⟩
  have h2 := HW.out.drewN nq
  rw [hw2] at h2 ⊢
  have k42 := h2.k4
  have k52 : w2.cell? ⟨E.g, 5, none⟩ = some (.int .i64 5) := h2.k5
  have k62 := h2.k6
  have z4 := h2.free 4
  have z5 := h2.free 5
  have z6 := h2.free 6
  have H2 := Lib.hid h2
  clear k3 k4 k5 hw2 h2
  go_wp2
  go_quiet ((go_at_call 129; exact quiet_bool (HP.out _)))
  obtain ⟨w3, hw3⟩ : ∃ w3, w2.drewN nq = w3 := ⟨_, rfl⟩
  have h3 := H2.out.drewN nq
  rw [hw3] at h3 ⊢
  have k43 := h3.k4
  have z43 := h3.free 4
  have H3 := Lib.hid h3
  clear k42 k52 k62 z4 z5 z6 hw3 h3
  go_wp2_with (go_at_call 128; (with_reducible refine (HT.out _ H3.out).mono ?_); rintro e w4 ⟨rfl, h4⟩; have H4 := Lib.hid h4; clear h4)
  go_end0
  exact ⟨rfl, H4.out⟩

set_option maxRecDepth 100000 in
set_option maxHeartbeats 3200000 in
theorem step_comOn {E : Env} {i bg : Nat} {a : Acc} {w : World} (h : Was E i 5 bg a w) (hL : E.L.length ≤ 400000) (hi : i < E.L.length) (hbg : bg + 2 ≤ i) (hc : ¬ ((bytesOf E.L).getD i 0 = 42 ∧ (bytesOf E.L).getD (i + 1) 0 = 47)) :
    Calls Tryz.prog 107 #[.pointer (some ⟨E.g, 0, none⟩)] w (WasPost E (i + 1) 5 bg a) := by
  obtain ⟨R, hR, hRs, hRl⟩ := rest_of h
  have hcs := h.size.1
  have hii : (i : Int) ≤ (E.ch.size : Int) := by omega
  have hi0 : (0 : Int) ≤ (i : Int) := by omega
  have hR0 : 0 < R.size := by omega
  have hR0i : (0 : Int) < (R.size : Int) := by omega
  have k3 := h.k3
  have k4 := h.k4
  have k5 : w.cell? ⟨E.g, 5, none⟩ = some (.int .i64 5) := h.k5
  have HR := Lib.hid hR
  have HW := Lib.hid h
  have hpx := hasPrefix2 (s := R) (a := 42) (b := 47) (by decide) (by decide)
  rw [hRl, getD_drop, getD_drop, Nat.add_zero] at hpx
  rw [decide_eq_false hc] at hpx
  have HP := Lib.hid (fun W => prefix_is (s := R) (p := ⟨#[42, 47]⟩) (b := false) (by show Lib.hasPrefix R.data.toList [42, 47] = false; rw [hRl]; exact hpx) W)
  have HA : Hid (∀ X : World, Was E i 5 bg a X → Was E (i + 1) 5 bg a (X.setCell ⟨E.g, 4, none⟩ (.int .i64 ((i : Int) + 1)))) := Lib.hid (fun X hX => hX.setAt (i + 1) (Nat.le_succ i))
  have hbi : (bg : Int) + 2 ≤ (i : Int) := by omega
  have hbw : IntKind.i64.wrap ((bg : Int) + 2) = (bg : Int) + 2 := IntWalk.i64_in _ (by omega)
  clear hpx hc
  clear h hR hRl hcs hRs
  go_enter Tryz.func107, Tryz.ntmps107
  go_wp2
  go_quiet (fail)
  rw [HR.out]
  obtain ⟨w2, hw2⟩ : ∃ w2, w.drewN nq = w2 := ⟨_, rfl⟩
  have h2 := HW.out.drewN nq
  rw [hw2] at h2 ⊢
  have k42 := h2.k4
  have k52 : w2.cell? ⟨E.g, 5, none⟩ = some (.int .i64 5) := h2.k5
  have k62 := h2.k6
  have z4 := h2.free 4
  have z5 := h2.free 5
  have z6 := h2.free 6
  have H2 := Lib.hid h2
  clear k3 k4 k5 hw2 h2
  go_wp2
  go_quiet ((go_at_call 129; exact quiet_bool (HP.out _)))
  obtain ⟨w3, hw3⟩ : ∃ w3, w2.drewN nq = w3 := ⟨_, rfl⟩
  have h3 := H2.out.drewN nq
  rw [hw3] at h3 ⊢
  have k43 := h3.k4
  have z43 := h3.free 4
  have H3 := Lib.hid h3
  clear k42 k52 k62 z4 z5 z6 hw3 h3
  go_wp2
  go_end0
  exact ⟨rfl, HA.out _ H3.out⟩

set_option maxRecDepth 100000 in
set_option maxHeartbeats 3200000 in
theorem step_comIn {E : Env} {i bg : Nat} {a : Acc} {w : World} (h : Was E i 5 bg a w) (hL : E.L.length ≤ 400000) (hi : i < E.L.length) (hbg : ¬ bg + 2 ≤ i) (hbL : bg < E.L.length) :
    Calls Tryz.prog 107 #[.pointer (some ⟨E.g, 0, none⟩)] w (WasPost E (i + 1) 5 bg a) := by
  obtain ⟨R, hR, hRs, hRl⟩ := rest_of h
  have hcs := h.size.1
  have hii : (i : Int) ≤ (E.ch.size : Int) := by omega
  have hi0 : (0 : Int) ≤ (i : Int) := by omega
  have hR0 : 0 < R.size := by omega
  have hR0i : (0 : Int) < (R.size : Int) := by omega
  have k3 := h.k3
  have k4 := h.k4
  have k5 : w.cell? ⟨E.g, 5, none⟩ = some (.int .i64 5) := h.k5
  have HR := Lib.hid hR
  have HW := Lib.hid h
  have HA : Hid (∀ X : World, Was E i 5 bg a X → Was E (i + 1) 5 bg a (X.setCell ⟨E.g, 4, none⟩ (.int .i64 ((i : Int) + 1)))) := Lib.hid (fun X hX => hX.setAt (i + 1) (Nat.le_succ i))
  have hbi : decide ((bg : Int) + 2 ≤ (i : Int)) = false := by simp; omega
  have hbw : IntKind.i64.wrap ((bg : Int) + 2) = (bg : Int) + 2 := IntWalk.i64_in _ (by omega)
  clear h hR hRl hcs hRs
  go_enter Tryz.func107, Tryz.ntmps107
  go_wp2
  go_quiet (fail)
  rw [HR.out]
  obtain ⟨w2, hw2⟩ : ∃ w2, w.drewN nq = w2 := ⟨_, rfl⟩
  have h2 := HW.out.drewN nq
  rw [hw2] at h2 ⊢
  have k42 := h2.k4
  have k52 : w2.cell? ⟨E.g, 5, none⟩ = some (.int .i64 5) := h2.k5
  have k62 := h2.k6
  have z4 := h2.free 4
  have z5 := h2.free 5
  have z6 := h2.free 6
  have H2 := Lib.hid h2
  clear k3 k4 k5 hw2 h2
  go_wp2
  go_quiet (fail)
  obtain ⟨w3, hw3⟩ : ∃ w3, w2.drewN nq = w3 := ⟨_, rfl⟩
  have h3 := H2.out.drewN nq
  rw [hw3] at h3 ⊢
  have k43 := h3.k4
  have z43 := h3.free 4
  have H3 := Lib.hid h3
  clear k42 k52 k62 z4 z5 z6 hw3 h3
  go_wp2
  go_end0
  exact ⟨rfl, HA.out _ H3.out⟩

end Go.Proofs.YtpnboieppkjfnaaGreat
