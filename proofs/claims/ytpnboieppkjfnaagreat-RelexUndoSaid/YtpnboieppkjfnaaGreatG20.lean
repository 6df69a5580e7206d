/-
  Texts of the proof, put together: LxT3.
-/
import Derived.Test.YtpnboieppkjfnaaGreatG19

/-
  take of the project, walked.
-/
namespace Go.Proofs.YtpnboieppkjfnaaGreat
open Go.RowKit

/-- s[i:j] of a string. -/
theorem slice_lh (s : ByteArray) (l h : Nat) (h1 : l ≤ h) (h2 : h ≤ s.size) (w : World) : (Instr.slice 9 (.string s) (some (.int .i64 (l : Int))) (some (.int .i64 (h : Int))) none).run Tryz.prog w = .ok (.string (s.extract l h)) w := by
  have a1 : (l : Int) ≤ (h : Int) := by omega
  have a2 : (h : Int) ≤ (s.size : Int) := by omega
  have a3 : (0 : Int) ≤ (l : Int) := by omega
  have a4 : (0 : Int) ≤ (h : Int) := by omega
  simp [Instr.slice, run_underlying Tryz.underlying9, Instr.sliceBounds, run_sliceBound, *]

/-- What take's great statement loads. -/
def TakeS (g : Nat) (ch : ByteArray) (i : Nat) (sp : Bool) (tv : Value) (w : World) : Prop := w.cell? ⟨g, 3, none⟩ = some (.string ch) ∧ w.cell? ⟨g, 4, none⟩ = some (.int .i64 (i : Int)) ∧ w.cell? ⟨g, 8, none⟩ = some (.bool sp) ∧ w.cell? ⟨g, 9, none⟩ = some tv
def WCis (c : WC) (ch : ByteArray) (i : Nat) (sp : Bool) (tv : Value) : Prop := c.ch = ch ∧ c.i = i ∧ c.sp = sp ∧ c.tv = tv
theorem takeS_of {g : Nat} {c : WC} {ch : ByteArray} {i : Nat} {sp : Bool} {tv : Value} {w : World} (h : WAt g c w) (hv : WCis c ch i sp tv) : TakeS g ch i sp tv w := by
  obtain ⟨rfl, rfl, rfl, rfl⟩ := hv
  exact ⟨h.k3, h.k4, h.k8, h.k9⟩

theorem ext_text (s : ByteArray) (a b : Nat) : s.extract a b = ⟨((s.data.toList.drop a).take (b - a)).toArray⟩ := by
  have h := ext_data s a b
  obtain ⟨d⟩ := s
  rw [← h]

theorem take_fin {E : Env} {i st bg r b n4 cap : Nat} {c2 : WC} {B2 : Nat} {P2 : List (Value × Ln)} {a2 : Acc} {w4 : World} {t : Tk} (h : PushT E.W E.g E.L c2 B2 P2 { a2 with toks := a2.toks ++ [t] } b n4 cap w4) (hc : c2.F = E.F ∧ c2.ch = E.ch ∧ c2.sz = E.sz ∧ c2.i = i ∧ c2.st = st ∧ c2.bg = bg) (hir : i ≤ r) {a' : Acc} (ha : a' = { a2 with sp := false, toks := a2.toks ++ [t] }) :
    Was E r st bg a' (((w4.setCell ⟨E.g, 9, none⟩ (.slice (some ⟨b, 0, none⟩) n4 cap)).setCell ⟨E.g, 8, none⟩ (.bool false)).setCell ⟨E.g, 4, none⟩ (.int .i64 (r : Int))) := by
  obtain ⟨e1, e2, e3, e4, e5, e6⟩ := hc
  obtain ⟨-, hb⟩ := h
  have s1 := (Step.refl hb.blk).set 8 (.bool false) { c2 with tv := .slice (some ⟨b, 0, none⟩) n4 cap, sp := false } rfl
  have s2 := s1.set 4 (.int .i64 (r : Int)) { c2 with tv := .slice (some ⟨b, 0, none⟩) n4 cap, sp := false, i := r } rfl
  have hi : c2.i ≤ r := by rw [e4]; exact hir
  exact ⟨{ c2 with tv := .slice (some ⟨b, 0, none⟩) n4 cap, sp := false, i := r }, B2, P2, e1, e2, e3, rfl, e5, e6, by
    rw [ha]
    exact hb.step s2 ⟨rfl, rfl, rfl, rfl, rfl, rfl⟩ ⟨rfl, rfl, rfl⟩ hb.fr rfl (hb.un0.mono hi) (hb.un1.mono hi)⟩

theorem token_was {E : Env} {i st bg : Nat} {a : Acc} {w : World} (h : Was E i st bg a w) (hL : E.L.length ≤ 1000000) (hN : Nl (bytesOf E.L)) (hi : i < E.L.length) (h10 : (bytesOf E.L).getD i 0 ≠ 10) {k r : Nat} (hk : (tok ((bytesOf E.L).drop i)).1 = k) (hr : i + (tok ((bytesOf E.L).drop i)).2 = r) :
    Calls Tryz.prog 140 #[.pointer (some ⟨E.g, 0, none⟩)] w fun e w' => e = .returned (.tuple #[.int .i64 (k : Int), .int .i64 (r : Int)]) ∧ Was E i st bg a w' := by
  obtain ⟨c, B1, P, e1, e2, e3, e4, e5, e6, hb⟩ := h
  have hsz : c.ch.size = E.L.length := by rw [← len_byte, hb.chars, bytesOf_len]
  have ht := token_any hb.blk (by omega) (by rw [hb.chars]; exact hN) (by omega) (by rw [hb.chars, e4]; exact h10) hb.un0 hb.un1
  rw [hb.chars, e4, hk, hr] at ht
  refine ht.mono ?_
  rintro e w' ⟨he, u0, u1, hs, h0, h1⟩
  exact ⟨he, { c with u0 := u0, u1 := u1 }, B1, P, e1, e2, e3, e4, e5, e6, hb.step hs ⟨rfl, rfl, rfl, rfl, rfl, rfl⟩ ⟨rfl, rfl, rfl⟩ hb.fr hb.sp h0 h1⟩

theorem Was.drewN {E : Env} {i st bg : Nat} {a : Acc} {w : World} (h : Was E i st bg a w) (n : Nat) : Was E i st bg a (w.drewN n) := by
  obtain ⟨c, B1, P, e1, e2, e3, e4, e5, e6, hb⟩ := h
  exact ⟨c, B1, P, e1, e2, e3, e4, e5, e6, hb.drewN n⟩
theorem Was.size {E : Env} {i st bg : Nat} {a : Acc} {w : World} (h : Was E i st bg a w) : E.ch.size = E.L.length ∧ E.ch.data.toList = bytesOf E.L := by
  obtain ⟨c, B1, P, e1, e2, e3, e4, e5, e6, hb⟩ := h
  rw [← e2]
  exact ⟨by rw [← len_byte, hb.chars, bytesOf_len], hb.chars⟩
theorem Was.k3 {E : Env} {i st bg : Nat} {a : Acc} {w : World} (h : Was E i st bg a w) : w.cell? ⟨E.g, 3, none⟩ = some (.string E.ch) := by
  obtain ⟨c, B1, P, e1, e2, e3, e4, e5, e6, hb⟩ := h
  rw [← e2]
  exact hb.blk.k3
theorem Was.k4 {E : Env} {i st bg : Nat} {a : Acc} {w : World} (h : Was E i st bg a w) : w.cell? ⟨E.g, 4, none⟩ = some (.int .i64 (i : Int)) := by
  obtain ⟨c, B1, P, e1, e2, e3, e4, e5, e6, hb⟩ := h
  rw [← e4]
  exact hb.blk.k4
/-- All of it, opened for the great statement. -/
theorem Was.open {E : Env} {i st bg : Nat} {a : Acc} {w : World} (h : Was E i st bg a w) : ∃ c B1 P ta cap, Big E.W E.g E.L c B1 P a w ∧ (c.F = E.F ∧ c.ch = E.ch ∧ c.sz = E.sz ∧ c.i = i ∧ c.st = st ∧ c.bg = bg) ∧ WCis c E.ch i a.sp (.slice ta a.toks.length cap) := by
  obtain ⟨c, B1, P, e1, e2, e3, e4, e5, e6, hb⟩ := h
  obtain ⟨ta, cap, hv, -⟩ := row_form hb.toks
  exact ⟨c, B1, P, ta, cap, hb, ⟨e1, e2, e3, e4, e5, e6⟩, e2, e4, hb.sp, hv⟩

set_option maxRecDepth 100000 in
set_option maxHeartbeats 12800000 in
theorem take_good {E : Env} {i st bg : Nat} {a : Acc} {w : World} (h : Was E i st bg a w) (hL : E.L.length ≤ 1000000) (hN : Nl (bytesOf E.L)) (hi : i < E.L.length) (h10 : (bytesOf E.L).getD i 0 ≠ 10) {k n : Nat} (ht : tok ((bytesOf E.L).drop i) = (k, n)) (hbad : badN k ((bytesOf E.L).getD i 0) = false) (hk : k ≤ 100) (htk : a.toks.length ≤ 500000) (_hdg : a.diags.length ≤ 500000) :
    Calls Tryz.prog 127 #[.pointer (some ⟨E.g, 0, none⟩)] w (WasPost E (i + n) st bg (takeA E.L a k i n)) := by
  have hin := tok_in (l := (bytesOf E.L).drop i) (by rw [List.length_drop, bytesOf_len]; omega) (by rw [getD_drop]; exact h10)
  rw [ht, List.length_drop, bytesOf_len] at hin
  obtain ⟨hn0, hn1, -⟩ := hin
  simp only at hn0 hn1
  obtain ⟨m, hm⟩ : ∃ m, i + n = m + 1 := ⟨i + n - 1, by omega⟩
  obtain ⟨r, hr⟩ : ∃ r, i + n = r := ⟨_, rfl⟩
  have HT := Lib.hid (token_was h hL hN hi h10 (k := k) (r := r) (by rw [ht]) (by rw [ht]; exact hr))
  obtain ⟨hcs, hcl⟩ := h.size
  have hic : i < E.ch.size := by omega
  have hgb := get_byte E.ch i hic
  rw [hcl] at hgb
  rw [hgb] at hbad
  have HEN := Lib.hid (endless_is hk hbad)
  have HTA : Hid (takeA E.L a k i n = pushA E.L a k i n) := Lib.hid (by unfold takeA; rw [hgb, hbad]; rfl)
  have HTX : Hid (E.ch.extract i r = ⟨(((bytesOf E.L).drop i).take n).toArray⟩) := Lib.hid (by rw [ext_text, hcl, ← hr, Nat.add_sub_cancel_left])
  have HM : Hid ((r : Int) = (m : Int) + 1) := Lib.hid (by omega)
  have hir : (i : Int) ≤ (r : Int) := by omega
  have hrs : (r : Int) ≤ (E.ch.size : Int) := by omega
  have hi0 : (0 : Int) ≤ (i : Int) := by omega
  have hii : (i : Int) < (E.ch.size : Int) := by omega
  have hml : m < E.L.length := by omega
  have HR := Lib.hid hr
  have HMM := Lib.hid hm
  have hirn : i ≤ r := by omega
  have hrsn : r ≤ E.ch.size := by omega
  have hsl := slice_lh E.ch i r hirn hrsn
  rw [hr, HTA.out]
  clear ht hgb hbad hcl hn0 hn1 hm hr h hN h10
  go_enter Tryz.func127, Tryz.ntmps127
  go_wp2_with (go_at_call 140; (with_reducible refine HT.out.mono ?_); rintro e w1 ⟨rfl, h1⟩; have H1 := Lib.hid h1; have k3 := h1.k3; have k4 := h1.k4; clear h1)
  go_quiet ((go_at_call 141; exact quiet_bool (HEN.out _)))
  obtain ⟨w2, hw2⟩ : ∃ w2, w1.drewN nq = w2 := ⟨_, rfl⟩
  have h2 := H1.out.drewN nq
  rw [hw2] at h2
  rw [hw2]
  clear hw2 k3 k4
  have H2 := Lib.hid h2
  have k42 := h2.k4
  clear h2
  go_wp2
  obtain ⟨c2, B2, P2, ta, tcap, hb2, he2, htv⟩ := H2.out.open
  obtain ⟨a2, ha2⟩ : ∃ a2, a = a2 := ⟨_, rfl⟩
  rw [ha2] at hb2 htv htk HTA ⊢
  clear k42 H2
  have HTC : Hid (tcell c2.F ⟨k, ((bytesOf E.L).drop i).take n, a2.sp, rnF E.L i, rnT E.L m⟩ = [.int .i64 (k : Int), .string (E.ch.extract i r), .bool a2.sp, .string c2.F, .int .i64 (rnF E.L i : Int), .int .i64 (rnT E.L m : Int), .bool false, .slice none 0 0]) := Lib.hid (by rw [HTX.out]; rfl)
  have HB2 := Lib.hid hb2
  have HE2 := Lib.hid he2
  have HTV := Lib.hid htv
  have HSW := takeS_of hb2.drew.blk htv
  have HCV : Hid (c2.tv = .slice ta a2.toks.length tcap) := Lib.hid htv.2.2.2
  clear hb2 he2 htv
  refine region_anyT (TakeS E.g E.ch i a2.sp (.slice ta a2.toks.length tcap)) 32 (by kernel_rfl) ?_
  refine anyT_take 0 [30, 31, 32] (v := ?_) rfl (by kernel_rfl) (fun _ _ _ h => h) (Or.inl ⟨by rfl, ?_⟩) HSW ?_
  rotate_left
  · (intro w hSw; obtain ⟨hs3, hs4, hs8, hs9⟩ := hSw; go_simp; (try with_reducible rfl))
  (try simp only [Act.put]); (try simp only [List.setIfInBounds_toArray]); (try simp only [List.set_cons_succ]); (try simp only [List.set_cons_zero])
  refine anyT_take 1 [2, 3, 4, 29, 30, 31, 32] (v := ?_) rfl (by kernel_rfl) (fun _ _ _ h => h) (Or.inl ⟨by rfl, ?_⟩) HSW ?_
  rotate_left
  · (intro w hSw; obtain ⟨hs3, hs4, hs8, hs9⟩ := hSw; go_simp; (try with_reducible rfl))
  (try simp only [Act.put]); (try simp only [List.setIfInBounds_toArray]); (try simp only [List.set_cons_succ]); (try simp only [List.set_cons_zero])
  refine anyT_take 2 [3, 4, 29, 30, 31, 32] (v := ?_) rfl (by kernel_rfl) (fun _ _ _ h => h) (Or.inl ⟨by rfl, ?_⟩) HSW ?_
  rotate_left
  · (intro w hSw; obtain ⟨hs3, hs4, hs8, hs9⟩ := hSw; go_simp; (try with_reducible rfl))
  (try simp only [Act.put]); (try simp only [List.setIfInBounds_toArray]); (try simp only [List.set_cons_succ]); (try simp only [List.set_cons_zero])
  refine anyT_take 3 [4, 29, 30, 31, 32] (v := ?_) rfl (by kernel_rfl) (fun _ _ _ h => h) (Or.inl ⟨by rfl, ?_⟩) HSW ?_
  rotate_left
  · (intro w hSw; obtain ⟨hs3, hs4, hs8, hs9⟩ := hSw; go_simp; (try with_reducible rfl))
  (try simp only [Act.put]); (try simp only [List.setIfInBounds_toArray]); (try simp only [List.set_cons_succ]); (try simp only [List.set_cons_zero])
  refine anyT_take 4 [29, 30, 31, 32] (v := ?_) rfl (by kernel_rfl) (fun _ _ _ h => h) (Or.inl ⟨by rfl, ?_⟩) HSW ?_
  rotate_left
  · (intro w hSw; obtain ⟨hs3, hs4, hs8, hs9⟩ := hSw; go_simp; (try with_reducible rfl))
  (try simp only [Act.put]); (try simp only [List.setIfInBounds_toArray]); (try simp only [List.set_cons_succ]); (try simp only [List.set_cons_zero])
  refine anyT_take 5 [27, 28, 29, 30, 31, 32] (v := ?_) rfl (by kernel_rfl) (fun _ _ _ h => h) (Or.inl ⟨by rfl, ?_⟩) HSW ?_
  rotate_left
  · (intro w hSw; obtain ⟨hs3, hs4, hs8, hs9⟩ := hSw; go_simp; (try with_reducible rfl))
  (try simp only [Act.put]); (try simp only [List.setIfInBounds_toArray]); (try simp only [List.set_cons_succ]); (try simp only [List.set_cons_zero])
  refine anyT_take 6 [7, 8, 9, 15, 27, 28, 29, 30, 31, 32] (v := ?_) rfl (by kernel_rfl) (fun _ _ _ h => h) (Or.inl ⟨by rfl, ?_⟩) HSW ?_
  rotate_left
  · (intro w hSw; obtain ⟨hs3, hs4, hs8, hs9⟩ := hSw; go_simp; (try with_reducible rfl))
  (try simp only [Act.put]); (try simp only [List.setIfInBounds_toArray]); (try simp only [List.set_cons_succ]); (try simp only [List.set_cons_zero])
  refine anyT_take 7 [8, 9, 15, 27, 28, 29, 30, 31, 32] (v := ?_) rfl (by kernel_rfl) (fun _ _ _ h => h) (Or.inl ⟨by rfl, ?_⟩) HSW ?_
  rotate_left
  · (intro w hSw; obtain ⟨hs3, hs4, hs8, hs9⟩ := hSw; go_simp; (try with_reducible rfl))
  (try simp only [Act.put]); (try simp only [List.setIfInBounds_toArray]); (try simp only [List.set_cons_succ]); (try simp only [List.set_cons_zero])
  refine anyT_take 8 [9, 15, 27, 28, 29, 30, 31, 32] (v := ?_) rfl (by kernel_rfl) (fun _ _ _ h => h) (Or.inl ⟨by rfl, ?_⟩) HSW ?_
  rotate_left
  · (intro w hSw; obtain ⟨hs3, hs4, hs8, hs9⟩ := hSw; go_simp; (try with_reducible rfl))
  (try simp only [Act.put]); (try simp only [List.setIfInBounds_toArray]); (try simp only [List.set_cons_succ]); (try simp only [List.set_cons_zero])
  refine anyT_take 9 [15, 27, 28, 29, 30, 31, 32] (v := ?_) rfl (by kernel_rfl) (fun _ _ _ h => h) (Or.inl ⟨by rfl, ?_⟩) HSW ?_
  rotate_left
  · (intro w hSw; obtain ⟨hs3, hs4, hs8, hs9⟩ := hSw; go_simp; (try with_reducible rfl))
  (try simp only [Act.put]); (try simp only [List.setIfInBounds_toArray]); (try simp only [List.set_cons_succ]); (try simp only [List.set_cons_zero])
  refine anyT_take 10 [11, 12, 13, 15, 27, 28, 29, 30, 31, 32] (v := ?_) rfl (by kernel_rfl) (fun _ _ _ h => h) (Or.inl ⟨by rfl, ?_⟩) HSW ?_
  rotate_left
  · (intro w hSw; obtain ⟨hs3, hs4, hs8, hs9⟩ := hSw; go_simp; (try with_reducible rfl))
  (try simp only [Act.put]); (try simp only [List.setIfInBounds_toArray]); (try simp only [List.set_cons_succ]); (try simp only [List.set_cons_zero])
  refine anyT_take 11 [12, 13, 15, 27, 28, 29, 30, 31, 32] (v := ?_) rfl (by kernel_rfl) (fun _ _ _ h => h) (Or.inl ⟨by rfl, ?_⟩) HSW ?_
  rotate_left
  · (intro w hSw; obtain ⟨hs3, hs4, hs8, hs9⟩ := hSw; go_simp; (try with_reducible rfl))
  (try simp only [Act.put]); (try simp only [List.setIfInBounds_toArray]); (try simp only [List.set_cons_succ]); (try simp only [List.set_cons_zero])
  refine anyT_take 12 [13, 15, 27, 28, 29, 30, 31, 32] (v := ?_) rfl (by kernel_rfl) (fun _ _ _ h => h) (Or.inl ⟨by rfl, ?_⟩) HSW ?_
  rotate_left
  · (intro w hSw; obtain ⟨hs3, hs4, hs8, hs9⟩ := hSw; go_simp; (try with_reducible rfl))
  (try simp only [Act.put]); (try simp only [List.setIfInBounds_toArray]); (try simp only [List.set_cons_succ]); (try simp only [List.set_cons_zero])
  refine anyT_take 13 [15, 27, 28, 29, 30, 31, 32] (v := ?_) rfl (by kernel_rfl) (fun _ _ _ h => h) (Or.inl ⟨by rfl, ?_⟩) HSW ?_
  rotate_left
  · (intro w hSw; obtain ⟨hs3, hs4, hs8, hs9⟩ := hSw; go_simp; (try with_reducible rfl))
  (try simp only [Act.put]); (try simp only [List.setIfInBounds_toArray]); (try simp only [List.set_cons_succ]); (try simp only [List.set_cons_zero])
  refine anyT_take 14 [15, 27, 28, 29, 30, 31, 32] (v := ?_) rfl (by kernel_rfl) (fun _ _ _ h => h) (Or.inl ⟨by rfl, ?_⟩) HSW ?_
  rotate_left
  · (intro w hSw; obtain ⟨hs3, hs4, hs8, hs9⟩ := hSw; go_simp; (try with_reducible rfl))
  (try simp only [Act.put]); (try simp only [List.setIfInBounds_toArray]); (try simp only [List.set_cons_succ]); (try simp only [List.set_cons_zero])
  refine anyT_take 15 [27, 28, 29, 30, 31, 32] (v := ?_) rfl (by kernel_rfl) (fun _ _ _ h => h) (Or.inl ⟨by rfl, ?_⟩) HSW ?_
  rotate_left
  · (intro w hSw; obtain ⟨hs3, hs4, hs8, hs9⟩ := hSw; go_simp; (try with_reducible rfl))
  (try simp only [Act.put]); (try simp only [List.setIfInBounds_toArray]); (try simp only [List.set_cons_succ]); (try simp only [List.set_cons_zero])
  refine anyT_take 16 [17, 18, 19, 27, 28, 29, 30, 31, 32] (v := ?_) rfl (by kernel_rfl) (fun _ _ _ h => h) (Or.inl ⟨by rfl, ?_⟩) HSW ?_
  rotate_left
  · (intro w hSw; obtain ⟨hs3, hs4, hs8, hs9⟩ := hSw; go_simp; (try with_reducible rfl))
  (try simp only [Act.put]); (try simp only [List.setIfInBounds_toArray]); (try simp only [List.set_cons_succ]); (try simp only [List.set_cons_zero])
  refine anyT_take 17 [18, 19, 27, 28, 29, 30, 31, 32] (v := ?_) rfl (by kernel_rfl) (fun _ _ _ h => h) (Or.inl ⟨by rfl, ?_⟩) HSW ?_
  rotate_left
  · (intro w hSw; obtain ⟨hs3, hs4, hs8, hs9⟩ := hSw; go_simp; (try with_reducible rfl))
  (try simp only [Act.put]); (try simp only [List.setIfInBounds_toArray]); (try simp only [List.set_cons_succ]); (try simp only [List.set_cons_zero])
  refine anyT_take 18 [19, 27, 28, 29, 30, 31, 32] (v := ?_) rfl (by kernel_rfl) (fun _ _ _ h => h) (Or.inl ⟨by rfl, ?_⟩) HSW ?_
  rotate_left
  · (intro w hSw; obtain ⟨hs3, hs4, hs8, hs9⟩ := hSw; go_simp; (try with_reducible rfl))
  (try simp only [Act.put]); (try simp only [List.setIfInBounds_toArray]); (try simp only [List.set_cons_succ]); (try simp only [List.set_cons_zero])
  refine anyT_take 19 [27, 28, 29, 30, 31, 32] (v := ?_) rfl (by kernel_rfl) (fun _ _ _ h => h) (Or.inl ⟨by rfl, ?_⟩) HSW ?_
  rotate_left
  · (intro w hSw; obtain ⟨hs3, hs4, hs8, hs9⟩ := hSw; go_simp; (try with_reducible rfl))
  (try simp only [Act.put]); (try simp only [List.setIfInBounds_toArray]); (try simp only [List.set_cons_succ]); (try simp only [List.set_cons_zero])
  refine anyT_take 20 [26, 27, 28, 29, 30, 31, 32] (v := ?_) rfl (by kernel_rfl) (fun _ _ _ h => h) (Or.inl ⟨by rfl, ?_⟩) HSW ?_
  rotate_left
  · (intro w hSw; obtain ⟨hs3, hs4, hs8, hs9⟩ := hSw; go_simp; (try with_reducible rfl))
  (try simp only [Act.put]); (try simp only [List.setIfInBounds_toArray]); (try simp only [List.set_cons_succ]); (try simp only [List.set_cons_zero])
  refine anyT_take 21 [22, 23, 24, 26, 27, 28, 29, 30, 31, 32] (v := ?_) rfl (by kernel_rfl) (fun _ _ _ h => h) (Or.inl ⟨by rfl, ?_⟩) HSW ?_
  rotate_left
  · (intro w hSw; obtain ⟨hs3, hs4, hs8, hs9⟩ := hSw; go_simp; (try with_reducible rfl))
  (try simp only [Act.put]); (try simp only [List.setIfInBounds_toArray]); (try simp only [List.set_cons_succ]); (try simp only [List.set_cons_zero])
  refine anyT_take 22 [23, 24, 26, 27, 28, 29, 30, 31, 32] (v := ?_) rfl (by kernel_rfl) (fun _ _ _ h => h) (Or.inl ⟨by rfl, ?_⟩) HSW ?_
  rotate_left
  · (intro w hSw; obtain ⟨hs3, hs4, hs8, hs9⟩ := hSw; go_simp; (try with_reducible rfl))
  (try simp only [Act.put]); (try simp only [List.setIfInBounds_toArray]); (try simp only [List.set_cons_succ]); (try simp only [List.set_cons_zero])
  refine anyT_take 23 [24, 26, 27, 28, 29, 30, 31, 32] (v := ?_) rfl (by kernel_rfl) (fun _ _ _ h => h) (Or.inl ⟨by rfl, ?_⟩) HSW ?_
  rotate_left
  · (intro w hSw; obtain ⟨hs3, hs4, hs8, hs9⟩ := hSw; go_simp; (try with_reducible rfl))
  (try simp only [Act.put]); (try simp only [List.setIfInBounds_toArray]); (try simp only [List.set_cons_succ]); (try simp only [List.set_cons_zero])
  refine anyT_take 24 [26, 27, 28, 29, 30, 31, 32] (v := ?_) rfl (by kernel_rfl) (fun _ _ _ h => h) (Or.inl ⟨by rfl, ?_⟩) HSW ?_
  rotate_left
  · (intro w hSw; obtain ⟨hs3, hs4, hs8, hs9⟩ := hSw; go_simp; (try with_reducible rfl))
  (try simp only [Act.put]); (try simp only [List.setIfInBounds_toArray]); (try simp only [List.set_cons_succ]); (try simp only [List.set_cons_zero])
  refine anyT_take 25 [26, 27, 28, 29, 30, 31, 32] (v := ?_) rfl (by kernel_rfl) (fun _ _ _ h => h) (Or.inl ⟨by rfl, ?_⟩) HSW ?_
  rotate_left
  · (intro w hSw; obtain ⟨hs3, hs4, hs8, hs9⟩ := hSw; go_simp; (try with_reducible rfl))
  (try simp only [Act.put]); (try simp only [List.setIfInBounds_toArray]); (try simp only [List.set_cons_succ]); (try simp only [List.set_cons_zero])
  refine anyT_step 26 (by kernel_rfl) rfl (fun K hK => ?_)
  go_simp
  go_at_call 130
  refine (span_big (W := E.W) (g := E.g) (L := E.L) (c := c2) (B1 := B2) (P := P2) (a := a2) ?_ i m (i : Int) (r : Int) rfl HM.out hi hml hL).mono ?_
  · (repeat first | (with_reducible apply Big.drew) | (with_reducible apply Big.drewN)); (with_reducible exact HB2.out)
  rintro e w3 ⟨rfl, h3⟩
  have HB3 := Lib.hid h3
  have HSW := takeS_of h3.blk HTV.out
  have hlt3 := h3.lt
  have hne3 : E.g ≠ w3.heap.size := by omega
  clear h3
  try go_wp2_with fail
  refine hK.out _ _ (fun _ => HSW) ?_
  clear hK K
  (try simp only [Act.put]); (try simp only [List.setIfInBounds_toArray]); (try simp only [List.set_cons_succ]); (try simp only [List.set_cons_zero])
  refine anyT_take 27 [28, 29, 30, 31, 32] (v := ?_) rfl (by kernel_rfl) (fun _ _ _ h => h) (Or.inl ⟨by rfl, ?_⟩) HSW ?_
  rotate_left
  · (intro w hSw; obtain ⟨hs3, hs4, hs8, hs9⟩ := hSw; go_simp; (try with_reducible rfl))
  (try simp only [Act.put]); (try simp only [List.setIfInBounds_toArray]); (try simp only [List.set_cons_succ]); (try simp only [List.set_cons_zero])
  refine anyT_step 28 (by kernel_rfl) rfl (fun K hK => ?_)
  go_simp
  have HB4 := Lib.hid (HB3.out.alloc (.cells #[.int .i64 (k : Int), .string (E.ch.extract i r), .bool a2.sp, .string c2.F, .int .i64 (rnF E.L i : Int), .int .i64 (rnT E.L m : Int), .bool false, .slice none 0 0] 110))
  have HSW := takeS_of HB4.out.blk HTV.out
  refine hK.out _ _ (fun _ => HSW) ?_
  clear hK K
  (try simp only [Act.put]); (try simp only [List.setIfInBounds_toArray]); (try simp only [List.set_cons_succ]); (try simp only [List.set_cons_zero])
  refine anyT_step 29 (by kernel_rfl) rfl (fun K hK => ?_)
  refine step_ex rfl (.tmp 31) (.tmp 55) 85 rfl _ _ _ rfl rfl (Big.pushT2 (W := E.W) (g := E.g) (L := E.L) (c := c2) (B1 := B2) (P := P2) (a := a2) (by with_reducible exact HB4.out) HCV.out ⟨k, ((bytesOf E.L).drop i).take n, a2.sp, rnF E.L i, rnT E.L m⟩ (by rw [HTC.out]; exact src_row (heap_alloc_new _ _) rfl rfl) htk) ?_
  intro b n4 cap w4 hp
  have HP2 := Lib.hid hp
  have k98 := hp.1.k8
  have k94 := hp.1.k4
  have k99 := hp.1.k9
  have z8 := hp.1.free 8
  have z4 := hp.1.free 4
  have z9 := hp.1.free 9
  have HSW := takeS_of hp.1 HTV.out
  clear hp
  refine hK.out _ _ (fun _ => HSW) ?_
  clear hK K
  (try simp only [Act.put]); (try simp only [List.setIfInBounds_toArray]); (try simp only [List.set_cons_succ]); (try simp only [List.set_cons_zero])
  refine anyT_take 30 [31, 32] (v := ?_) rfl (by kernel_rfl) (fun _ _ _ h => h) (Or.inl ⟨by rfl, ?_⟩) HSW ?_
  rotate_left
  · (intro w hSw; obtain ⟨hs3, hs4, hs8, hs9⟩ := hSw; go_simp; (try with_reducible rfl))
  (try simp only [Act.put]); (try simp only [List.setIfInBounds_toArray]); (try simp only [List.set_cons_succ]); (try simp only [List.set_cons_zero])
  refine anyT_take 31 [32] (v := ?_) rfl (by kernel_rfl) (fun _ _ _ h => h) (Or.inl ⟨by rfl, ?_⟩) HSW ?_
  rotate_left
  · (intro w hSw; obtain ⟨hs3, hs4, hs8, hs9⟩ := hSw; go_simp; (try with_reducible rfl))
  (try simp only [Act.put]); (try simp only [List.setIfInBounds_toArray]); (try simp only [List.set_cons_succ]); (try simp only [List.set_cons_zero])
  refine anyT_step 32 (by kernel_rfl) rfl (fun K hK => ?_)
  go_simp
  refine hK.out _ _ (fun h => absurd rfl h) ?_
  clear hK K
  (try simp only [Act.put]); (try simp only [List.setIfInBounds_toArray]); (try simp only [List.set_cons_succ]); (try simp only [List.set_cons_zero])
  refine anyT_done (by kernel_rfl) ?_ _
  go_wp2
  go_end0
  exact ⟨rfl, take_fin HP2.out HE2.out hirn (by rw [← ha2]; unfold pushA; rw [show i + n - 1 = m from by rw [HMM.out]; rfl])⟩

set_option maxRecDepth 100000 in
set_option maxHeartbeats 12800000 in
theorem take_bad {E : Env} {i st bg : Nat} {a : Acc} {w : World} (h : Was E i st bg a w) (hL : E.L.length ≤ 1000000) (hN : Nl (bytesOf E.L)) (hi : i < E.L.length) (h10 : (bytesOf E.L).getD i 0 ≠ 10) {k n : Nat} (ht : tok ((bytesOf E.L).drop i) = (k, n)) (hbad : badN k ((bytesOf E.L).getD i 0) = true) (hk : k ≤ 100) (htk : a.toks.length ≤ 500000) (hdg : a.diags.length ≤ 500000) :
    Calls Tryz.prog 127 #[.pointer (some ⟨E.g, 0, none⟩)] w (WasPost E (i + n) st bg (takeA E.L a k i n)) := by
  have hin := tok_in (l := (bytesOf E.L).drop i) (by rw [List.length_drop, bytesOf_len]; omega) (by rw [getD_drop]; exact h10)
  rw [ht, List.length_drop, bytesOf_len] at hin
  obtain ⟨hn0, hn1, -⟩ := hin
  simp only at hn0 hn1
  obtain ⟨m, hm⟩ : ∃ m, i + n = m + 1 := ⟨i + n - 1, by omega⟩
  obtain ⟨r, hr⟩ : ∃ r, i + n = r := ⟨_, rfl⟩
  have HT := Lib.hid (token_was h hL hN hi h10 (k := k) (r := r) (by rw [ht]) (by rw [ht]; exact hr))
  obtain ⟨hcs, hcl⟩ := h.size
  have hic : i < E.ch.size := by omega
  have hgb := get_byte E.ch i hic
  rw [hcl] at hgb
  rw [hgb] at hbad
  have HEN := Lib.hid (endless_is hk hbad)
  have HTA : Hid (takeA E.L a k i n = pushA E.L (tellA E.L a 2 i (i + n)) k i n) := Lib.hid (by unfold takeA; rw [hgb, hbad]; rfl)
  have HTX : Hid (E.ch.extract i r = ⟨(((bytesOf E.L).drop i).take n).toArray⟩) := Lib.hid (by rw [ext_text, hcl, ← hr, Nat.add_sub_cancel_left])
  have HM : Hid ((r : Int) = (m : Int) + 1) := Lib.hid (by omega)
  have hir : (i : Int) ≤ (r : Int) := by omega
  have hrs : (r : Int) ≤ (E.ch.size : Int) := by omega
  have hi0 : (0 : Int) ≤ (i : Int) := by omega
  have hii : (i : Int) < (E.ch.size : Int) := by omega
  have hml : m < E.L.length := by omega
  have HR := Lib.hid hr
  have HMM := Lib.hid hm
  have hirn : i ≤ r := by omega
  have hrsn : r ≤ E.ch.size := by omega
  have hsl := slice_lh E.ch i r hirn hrsn
  rw [hr, HTA.out]
  clear ht hgb hbad hcl hn0 hn1 hm hr h hN h10
  go_enter Tryz.func127, Tryz.ntmps127
  go_wp2_with (go_at_call 140; (with_reducible refine HT.out.mono ?_); rintro e w1 ⟨rfl, h1⟩; have H1 := Lib.hid h1; have k3 := h1.k3; have k4 := h1.k4; clear h1)
  go_quiet ((go_at_call 141; exact quiet_bool (HEN.out _)))
  obtain ⟨w2, hw2⟩ : ∃ w2, w1.drewN nq = w2 := ⟨_, rfl⟩
  have h2 := H1.out.drewN nq
  rw [hw2] at h2
  rw [hw2]
  clear hw2 k3 k4
  have H2 := Lib.hid h2
  have k42 := h2.k4
  clear h2
  have HTL : Hid (Calls Tryz.prog 108 #[.pointer (some ⟨E.g, 0, none⟩), .int .i64 2, .int .i64 (i : Int), .int .i64 (r : Int)] w2 (WasPost E i st bg (tellA E.L a 2 i (m + 1)))) := Lib.hid (tell_any H2.out 2 i m _ _ rfl HM.out hi hml hL hdg)
  go_wp2_with (go_at_call 108; (with_reducible refine HTL.out.mono ?_); rintro e w5 ⟨rfl, h5⟩; have H5 := Lib.hid h5; clear h5)
  obtain ⟨c2, B2, P2, ta, tcap, hb2, he2, htv⟩ := H5.out.open
  obtain ⟨a2, ha2⟩ : ∃ a2, tellA E.L a 2 i (m + 1) = a2 := ⟨_, rfl⟩
  have htk : (tellA E.L a 2 i (m + 1)).toks.length ≤ 500000 := htk
  rw [ha2] at hb2 htv htk
  clear k42 H2
  have HTC : Hid (tcell c2.F ⟨k, ((bytesOf E.L).drop i).take n, a2.sp, rnF E.L i, rnT E.L m⟩ = [.int .i64 (k : Int), .string (E.ch.extract i r), .bool a2.sp, .string c2.F, .int .i64 (rnF E.L i : Int), .int .i64 (rnT E.L m : Int), .bool false, .slice none 0 0]) := Lib.hid (by rw [HTX.out]; rfl)
  have HB2 := Lib.hid hb2
  have HE2 := Lib.hid he2
  have HTV := Lib.hid htv
  have HSW := takeS_of hb2.drew.blk htv
  have HCV : Hid (c2.tv = .slice ta a2.toks.length tcap) := Lib.hid htv.2.2.2
  clear hb2 he2 htv
  refine region_anyT (TakeS E.g E.ch i a2.sp (.slice ta a2.toks.length tcap)) 32 (by kernel_rfl) ?_
  refine anyT_take 0 [30, 31, 32] (v := ?_) rfl (by kernel_rfl) (fun _ _ _ h => h) (Or.inl ⟨by rfl, ?_⟩) HSW ?_
  rotate_left
  · (intro w hSw; obtain ⟨hs3, hs4, hs8, hs9⟩ := hSw; go_simp; (try with_reducible rfl))
  (try simp only [Act.put]); (try simp only [List.setIfInBounds_toArray]); (try simp only [List.set_cons_succ]); (try simp only [List.set_cons_zero])
  refine anyT_take 1 [2, 3, 4, 29, 30, 31, 32] (v := ?_) rfl (by kernel_rfl) (fun _ _ _ h => h) (Or.inl ⟨by rfl, ?_⟩) HSW ?_
  rotate_left
  · (intro w hSw; obtain ⟨hs3, hs4, hs8, hs9⟩ := hSw; go_simp; (try with_reducible rfl))
  (try simp only [Act.put]); (try simp only [List.setIfInBounds_toArray]); (try simp only [List.set_cons_succ]); (try simp only [List.set_cons_zero])
  refine anyT_take 2 [3, 4, 29, 30, 31, 32] (v := ?_) rfl (by kernel_rfl) (fun _ _ _ h => h) (Or.inl ⟨by rfl, ?_⟩) HSW ?_
  rotate_left
  · (intro w hSw; obtain ⟨hs3, hs4, hs8, hs9⟩ := hSw; go_simp; (try with_reducible rfl))
  (try simp only [Act.put]); (try simp only [List.setIfInBounds_toArray]); (try simp only [List.set_cons_succ]); (try simp only [List.set_cons_zero])
  refine anyT_take 3 [4, 29, 30, 31, 32] (v := ?_) rfl (by kernel_rfl) (fun _ _ _ h => h) (Or.inl ⟨by rfl, ?_⟩) HSW ?_
  rotate_left
  · (intro w hSw; obtain ⟨hs3, hs4, hs8, hs9⟩ := hSw; go_simp; (try with_reducible rfl))
  (try simp only [Act.put]); (try simp only [List.setIfInBounds_toArray]); (try simp only [List.set_cons_succ]); (try simp only [List.set_cons_zero])
  refine anyT_take 4 [29, 30, 31, 32] (v := ?_) rfl (by kernel_rfl) (fun _ _ _ h => h) (Or.inl ⟨by rfl, ?_⟩) HSW ?_
  rotate_left
  · (intro w hSw; obtain ⟨hs3, hs4, hs8, hs9⟩ := hSw; go_simp; (try with_reducible rfl))
  (try simp only [Act.put]); (try simp only [List.setIfInBounds_toArray]); (try simp only [List.set_cons_succ]); (try simp only [List.set_cons_zero])
  refine anyT_take 5 [27, 28, 29, 30, 31, 32] (v := ?_) rfl (by kernel_rfl) (fun _ _ _ h => h) (Or.inl ⟨by rfl, ?_⟩) HSW ?_
  rotate_left
  · (intro w hSw; obtain ⟨hs3, hs4, hs8, hs9⟩ := hSw; go_simp; (try with_reducible rfl))
  (try simp only [Act.put]); (try simp only [List.setIfInBounds_toArray]); (try simp only [List.set_cons_succ]); (try simp only [List.set_cons_zero])
  refine anyT_take 6 [7, 8, 9, 15, 27, 28, 29, 30, 31, 32] (v := ?_) rfl (by kernel_rfl) (fun _ _ _ h => h) (Or.inl ⟨by rfl, ?_⟩) HSW ?_
  rotate_left
  · (intro w hSw; obtain ⟨hs3, hs4, hs8, hs9⟩ := hSw; go_simp; (try with_reducible rfl))
  (try simp only [Act.put]); (try simp only [List.setIfInBounds_toArray]); (try simp only [List.set_cons_succ]); (try simp only [List.set_cons_zero])
  refine anyT_take 7 [8, 9, 15, 27, 28, 29, 30, 31, 32] (v := ?_) rfl (by kernel_rfl) (fun _ _ _ h => h) (Or.inl ⟨by rfl, ?_⟩) HSW ?_
  rotate_left
  · (intro w hSw; obtain ⟨hs3, hs4, hs8, hs9⟩ := hSw; go_simp; (try with_reducible rfl))
  (try simp only [Act.put]); (try simp only [List.setIfInBounds_toArray]); (try simp only [List.set_cons_succ]); (try simp only [List.set_cons_zero])
  refine anyT_take 8 [9, 15, 27, 28, 29, 30, 31, 32] (v := ?_) rfl (by kernel_rfl) (fun _ _ _ h => h) (Or.inl ⟨by rfl, ?_⟩) HSW ?_
  rotate_left
  · (intro w hSw; obtain ⟨hs3, hs4, hs8, hs9⟩ := hSw; go_simp; (try with_reducible rfl))
  (try simp only [Act.put]); (try simp only [List.setIfInBounds_toArray]); (try simp only [List.set_cons_succ]); (try simp only [List.set_cons_zero])
  refine anyT_take 9 [15, 27, 28, 29, 30, 31, 32] (v := ?_) rfl (by kernel_rfl) (fun _ _ _ h => h) (Or.inl ⟨by rfl, ?_⟩) HSW ?_
  rotate_left
  · (intro w hSw; obtain ⟨hs3, hs4, hs8, hs9⟩ := hSw; go_simp; (try with_reducible rfl))
  (try simp only [Act.put]); (try simp only [List.setIfInBounds_toArray]); (try simp only [List.set_cons_succ]); (try simp only [List.set_cons_zero])
  refine anyT_take 10 [11, 12, 13, 15, 27, 28, 29, 30, 31, 32] (v := ?_) rfl (by kernel_rfl) (fun _ _ _ h => h) (Or.inl ⟨by rfl, ?_⟩) HSW ?_
  rotate_left
  · (intro w hSw; obtain ⟨hs3, hs4, hs8, hs9⟩ := hSw; go_simp; (try with_reducible rfl))
  (try simp only [Act.put]); (try simp only [List.setIfInBounds_toArray]); (try simp only [List.set_cons_succ]); (try simp only [List.set_cons_zero])
  refine anyT_take 11 [12, 13, 15, 27, 28, 29, 30, 31, 32] (v := ?_) rfl (by kernel_rfl) (fun _ _ _ h => h) (Or.inl ⟨by rfl, ?_⟩) HSW ?_
  rotate_left
  · (intro w hSw; obtain ⟨hs3, hs4, hs8, hs9⟩ := hSw; go_simp; (try with_reducible rfl))
  (try simp only [Act.put]); (try simp only [List.setIfInBounds_toArray]); (try simp only [List.set_cons_succ]); (try simp only [List.set_cons_zero])
  refine anyT_take 12 [13, 15, 27, 28, 29, 30, 31, 32] (v := ?_) rfl (by kernel_rfl) (fun _ _ _ h => h) (Or.inl ⟨by rfl, ?_⟩) HSW ?_
  rotate_left
  · (intro w hSw; obtain ⟨hs3, hs4, hs8, hs9⟩ := hSw; go_simp; (try with_reducible rfl))
  (try simp only [Act.put]); (try simp only [List.setIfInBounds_toArray]); (try simp only [List.set_cons_succ]); (try simp only [List.set_cons_zero])
  refine anyT_take 13 [15, 27, 28, 29, 30, 31, 32] (v := ?_) rfl (by kernel_rfl) (fun _ _ _ h => h) (Or.inl ⟨by rfl, ?_⟩) HSW ?_
  rotate_left
  · (intro w hSw; obtain ⟨hs3, hs4, hs8, hs9⟩ := hSw; go_simp; (try with_reducible rfl))
  (try simp only [Act.put]); (try simp only [List.setIfInBounds_toArray]); (try simp only [List.set_cons_succ]); (try simp only [List.set_cons_zero])
  refine anyT_take 14 [15, 27, 28, 29, 30, 31, 32] (v := ?_) rfl (by kernel_rfl) (fun _ _ _ h => h) (Or.inl ⟨by rfl, ?_⟩) HSW ?_
  rotate_left
  · (intro w hSw; obtain ⟨hs3, hs4, hs8, hs9⟩ := hSw; go_simp; (try with_reducible rfl))
  (try simp only [Act.put]); (try simp only [List.setIfInBounds_toArray]); (try simp only [List.set_cons_succ]); (try simp only [List.set_cons_zero])
  refine anyT_take 15 [27, 28, 29, 30, 31, 32] (v := ?_) rfl (by kernel_rfl) (fun _ _ _ h => h) (Or.inl ⟨by rfl, ?_⟩) HSW ?_
  rotate_left
  · (intro w hSw; obtain ⟨hs3, hs4, hs8, hs9⟩ := hSw; go_simp; (try with_reducible rfl))
  (try simp only [Act.put]); (try simp only [List.setIfInBounds_toArray]); (try simp only [List.set_cons_succ]); (try simp only [List.set_cons_zero])
  refine anyT_take 16 [17, 18, 19, 27, 28, 29, 30, 31, 32] (v := ?_) rfl (by kernel_rfl) (fun _ _ _ h => h) (Or.inl ⟨by rfl, ?_⟩) HSW ?_
  rotate_left
  · (intro w hSw; obtain ⟨hs3, hs4, hs8, hs9⟩ := hSw; go_simp; (try with_reducible rfl))
  (try simp only [Act.put]); (try simp only [List.setIfInBounds_toArray]); (try simp only [List.set_cons_succ]); (try simp only [List.set_cons_zero])
  refine anyT_take 17 [18, 19, 27, 28, 29, 30, 31, 32] (v := ?_) rfl (by kernel_rfl) (fun _ _ _ h => h) (Or.inl ⟨by rfl, ?_⟩) HSW ?_
  rotate_left
  · (intro w hSw; obtain ⟨hs3, hs4, hs8, hs9⟩ := hSw; go_simp; (try with_reducible rfl))
  (try simp only [Act.put]); (try simp only [List.setIfInBounds_toArray]); (try simp only [List.set_cons_succ]); (try simp only [List.set_cons_zero])
  refine anyT_take 18 [19, 27, 28, 29, 30, 31, 32] (v := ?_) rfl (by kernel_rfl) (fun _ _ _ h => h) (Or.inl ⟨by rfl, ?_⟩) HSW ?_
  rotate_left
  · (intro w hSw; obtain ⟨hs3, hs4, hs8, hs9⟩ := hSw; go_simp; (try with_reducible rfl))
  (try simp only [Act.put]); (try simp only [List.setIfInBounds_toArray]); (try simp only [List.set_cons_succ]); (try simp only [List.set_cons_zero])
  refine anyT_take 19 [27, 28, 29, 30, 31, 32] (v := ?_) rfl (by kernel_rfl) (fun _ _ _ h => h) (Or.inl ⟨by rfl, ?_⟩) HSW ?_
  rotate_left
  · (intro w hSw; obtain ⟨hs3, hs4, hs8, hs9⟩ := hSw; go_simp; (try with_reducible rfl))
  (try simp only [Act.put]); (try simp only [List.setIfInBounds_toArray]); (try simp only [List.set_cons_succ]); (try simp only [List.set_cons_zero])
  refine anyT_take 20 [26, 27, 28, 29, 30, 31, 32] (v := ?_) rfl (by kernel_rfl) (fun _ _ _ h => h) (Or.inl ⟨by rfl, ?_⟩) HSW ?_
  rotate_left
  · (intro w hSw; obtain ⟨hs3, hs4, hs8, hs9⟩ := hSw; go_simp; (try with_reducible rfl))
  (try simp only [Act.put]); (try simp only [List.setIfInBounds_toArray]); (try simp only [List.set_cons_succ]); (try simp only [List.set_cons_zero])
  refine anyT_take 21 [22, 23, 24, 26, 27, 28, 29, 30, 31, 32] (v := ?_) rfl (by kernel_rfl) (fun _ _ _ h => h) (Or.inl ⟨by rfl, ?_⟩) HSW ?_
  rotate_left
  · (intro w hSw; obtain ⟨hs3, hs4, hs8, hs9⟩ := hSw; go_simp; (try with_reducible rfl))
  (try simp only [Act.put]); (try simp only [List.setIfInBounds_toArray]); (try simp only [List.set_cons_succ]); (try simp only [List.set_cons_zero])
  refine anyT_take 22 [23, 24, 26, 27, 28, 29, 30, 31, 32] (v := ?_) rfl (by kernel_rfl) (fun _ _ _ h => h) (Or.inl ⟨by rfl, ?_⟩) HSW ?_
  rotate_left
  · (intro w hSw; obtain ⟨hs3, hs4, hs8, hs9⟩ := hSw; go_simp; (try with_reducible rfl))
  (try simp only [Act.put]); (try simp only [List.setIfInBounds_toArray]); (try simp only [List.set_cons_succ]); (try simp only [List.set_cons_zero])
  refine anyT_take 23 [24, 26, 27, 28, 29, 30, 31, 32] (v := ?_) rfl (by kernel_rfl) (fun _ _ _ h => h) (Or.inl ⟨by rfl, ?_⟩) HSW ?_
  rotate_left
  · (intro w hSw; obtain ⟨hs3, hs4, hs8, hs9⟩ := hSw; go_simp; (try with_reducible rfl))
  (try simp only [Act.put]); (try simp only [List.setIfInBounds_toArray]); (try simp only [List.set_cons_succ]); (try simp only [List.set_cons_zero])
  refine anyT_take 24 [26, 27, 28, 29, 30, 31, 32] (v := ?_) rfl (by kernel_rfl) (fun _ _ _ h => h) (Or.inl ⟨by rfl, ?_⟩) HSW ?_
  rotate_left
  · (intro w hSw; obtain ⟨hs3, hs4, hs8, hs9⟩ := hSw; go_simp; (try with_reducible rfl))
  (try simp only [Act.put]); (try simp only [List.setIfInBounds_toArray]); (try simp only [List.set_cons_succ]); (try simp only [List.set_cons_zero])
  refine anyT_take 25 [26, 27, 28, 29, 30, 31, 32] (v := ?_) rfl (by kernel_rfl) (fun _ _ _ h => h) (Or.inl ⟨by rfl, ?_⟩) HSW ?_
  rotate_left
  · (intro w hSw; obtain ⟨hs3, hs4, hs8, hs9⟩ := hSw; go_simp; (try with_reducible rfl))
  (try simp only [Act.put]); (try simp only [List.setIfInBounds_toArray]); (try simp only [List.set_cons_succ]); (try simp only [List.set_cons_zero])
  refine anyT_step 26 (by kernel_rfl) rfl (fun K hK => ?_)
  go_simp
  go_at_call 130
  refine (span_big (W := E.W) (g := E.g) (L := E.L) (c := c2) (B1 := B2) (P := P2) (a := a2) ?_ i m (i : Int) (r : Int) rfl HM.out hi hml hL).mono ?_
  · (repeat first | (with_reducible apply Big.drew) | (with_reducible apply Big.drewN)); (with_reducible exact HB2.out)
  rintro e w3 ⟨rfl, h3⟩
  have HB3 := Lib.hid h3
  have HSW := takeS_of h3.blk HTV.out
  have hlt3 := h3.lt
  have hne3 : E.g ≠ w3.heap.size := by omega
  clear h3
  try go_wp2_with fail
  refine hK.out _ _ (fun _ => HSW) ?_
  clear hK K
  (try simp only [Act.put]); (try simp only [List.setIfInBounds_toArray]); (try simp only [List.set_cons_succ]); (try simp only [List.set_cons_zero])
  refine anyT_take 27 [28, 29, 30, 31, 32] (v := ?_) rfl (by kernel_rfl) (fun _ _ _ h => h) (Or.inl ⟨by rfl, ?_⟩) HSW ?_
  rotate_left
  · (intro w hSw; obtain ⟨hs3, hs4, hs8, hs9⟩ := hSw; go_simp; (try with_reducible rfl))
  (try simp only [Act.put]); (try simp only [List.setIfInBounds_toArray]); (try simp only [List.set_cons_succ]); (try simp only [List.set_cons_zero])
  refine anyT_step 28 (by kernel_rfl) rfl (fun K hK => ?_)
  go_simp
  have HB4 := Lib.hid (HB3.out.alloc (.cells #[.int .i64 (k : Int), .string (E.ch.extract i r), .bool a2.sp, .string c2.F, .int .i64 (rnF E.L i : Int), .int .i64 (rnT E.L m : Int), .bool false, .slice none 0 0] 110))
  have HSW := takeS_of HB4.out.blk HTV.out
  refine hK.out _ _ (fun _ => HSW) ?_
  clear hK K
  (try simp only [Act.put]); (try simp only [List.setIfInBounds_toArray]); (try simp only [List.set_cons_succ]); (try simp only [List.set_cons_zero])
  refine anyT_step 29 (by kernel_rfl) rfl (fun K hK => ?_)
  refine step_ex rfl (.tmp 31) (.tmp 55) 85 rfl _ _ _ rfl rfl (Big.pushT2 (W := E.W) (g := E.g) (L := E.L) (c := c2) (B1 := B2) (P := P2) (a := a2) (by with_reducible exact HB4.out) HCV.out ⟨k, ((bytesOf E.L).drop i).take n, a2.sp, rnF E.L i, rnT E.L m⟩ (by rw [HTC.out]; exact src_row (heap_alloc_new _ _) rfl rfl) htk) ?_
  intro b n4 cap w4 hp
  have HP2 := Lib.hid hp
  have k98 := hp.1.k8
  have k94 := hp.1.k4
  have k99 := hp.1.k9
  have z8 := hp.1.free 8
  have z4 := hp.1.free 4
  have z9 := hp.1.free 9
  have HSW := takeS_of hp.1 HTV.out
  clear hp
  refine hK.out _ _ (fun _ => HSW) ?_
  clear hK K
  (try simp only [Act.put]); (try simp only [List.setIfInBounds_toArray]); (try simp only [List.set_cons_succ]); (try simp only [List.set_cons_zero])
  refine anyT_take 30 [31, 32] (v := ?_) rfl (by kernel_rfl) (fun _ _ _ h => h) (Or.inl ⟨by rfl, ?_⟩) HSW ?_
  rotate_left
  · (intro w hSw; obtain ⟨hs3, hs4, hs8, hs9⟩ := hSw; go_simp; (try with_reducible rfl))
  (try simp only [Act.put]); (try simp only [List.setIfInBounds_toArray]); (try simp only [List.set_cons_succ]); (try simp only [List.set_cons_zero])
  refine anyT_take 31 [32] (v := ?_) rfl (by kernel_rfl) (fun _ _ _ h => h) (Or.inl ⟨by rfl, ?_⟩) HSW ?_
  rotate_left
  · (intro w hSw; obtain ⟨hs3, hs4, hs8, hs9⟩ := hSw; go_simp; (try with_reducible rfl))
  (try simp only [Act.put]); (try simp only [List.setIfInBounds_toArray]); (try simp only [List.set_cons_succ]); (try simp only [List.set_cons_zero])
  refine anyT_step 32 (by kernel_rfl) rfl (fun K hK => ?_)
  go_simp
  refine hK.out _ _ (fun h => absurd rfl h) ?_
  clear hK K
  (try simp only [Act.put]); (try simp only [List.setIfInBounds_toArray]); (try simp only [List.set_cons_succ]); (try simp only [List.set_cons_zero])
  refine anyT_done (by kernel_rfl) ?_ _
  go_wp2
  go_end0
  exact ⟨rfl, take_fin HP2.out HE2.out hirn (by rw [← ha2, ← HMM.out]; unfold pushA; rw [show i + n - 1 = m from by rw [HMM.out]; rfl])⟩

theorem wtake_any {E : Env} {i st bg : Nat} {a : Acc} {w : World} (h : Was E i st bg a w) (hL : E.L.length ≤ 1000000) (hN : Nl (bytesOf E.L)) (hi : i < E.L.length) (h10 : (bytesOf E.L).getD i 0 ≠ 10) {k n : Nat} (ht : tok ((bytesOf E.L).drop i) = (k, n)) (hk : k ≤ 100) (htk : a.toks.length ≤ 500000) (hdg : a.diags.length ≤ 500000) :
    Calls Tryz.prog 127 #[.pointer (some ⟨E.g, 0, none⟩)] w (WasPost E (i + n) st bg (takeA E.L a k i n)) := by
  cases hb : badN k ((bytesOf E.L).getD i 0) with
  | true => exact take_bad h hL hN hi h10 ht hb hk htk hdg
  | false => exact take_good h hL hN hi h10 ht hb hk htk hdg

end Go.Proofs.YtpnboieppkjfnaaGreat
