/-
  Texts of the proof, put together: RSpl, Tri.
-/
import Derived.Test.YtpnboieppkjfnaaGreatG12
import Derived.Test.YtpnboieppkjfnaaGreatG06

/-
  The document's own spliced, in memory: what is left out.
-/
namespace Go.Proofs.YtpnboieppkjfnaaGreat
open Go.RowKit

theorem spL_two {a b : Rn} {r : List Rn} (h1 : a.c = 92) (h2 : b.c = 10) : spL (a :: b :: r) = spL r := by
  rw [spL, if_pos ⟨h1, h2⟩]
theorem spL_byte {a : Rn} {r : List Rn} (h : ¬ a.c = 92) : spL (a :: r) = a :: spL r := by
  cases r with
  | nil => rfl
  | cons b q => rw [spL, if_neg fun h1 => h h1.1]
theorem spL_next {a b : Rn} {r : List Rn} (h : ¬ b.c = 10) : spL (a :: b :: r) = a :: spL (b :: r) := by
  rw [spL, if_neg fun h1 => h h1.2]

theorem drop_get {P : List Rn} {k : Nat} {r : Rn} (h : P[k]? = some r) : P.drop k = r :: P.drop (k + 1) := by
  have hk : k < P.length := by
    rcases Nat.lt_or_ge k P.length with h1 | h1
    · exact h1
    · rw [List.getElem?_eq_none h1] at h; cases h
  rw [List.drop_eq_getElem_cons hk]
  rw [List.getElem?_eq_getElem hk] at h
  cases h
  rfl

def RSplRel (W : World) (P : List Rn) (o i : Value) (w : World) : Prop :=
  ∃ (k : Nat) (L : List Rn) (a : Option Addr) (n cap : Nat), i = .int .i64 (k : Int) ∧ k ≤ P.length ∧ L.length ≤ k ∧ o = .slice a n cap ∧ n = L.length ∧ L ++ spL (P.drop k) = spL P ∧ RRow W o L w

/-- What an argument's cells hold, kept over the call's own steps. -/
theorem rrow_cells {W : World} {v : Value} {L : List Rn} {w : World} (h : RRow W v L w) : ∃ a cap, v = .slice a L.length cap ∧ L.length ≤ cap ∧ cap ≤ maxLen ∧ ∀ i r, L[i]? = some r → ∃ g, a = some ⟨g, 0, none⟩ ∧ g < w.heap.size ∧
    w.cell? ⟨g, i * 3, none⟩ = some (.int .u8 (r.c.toNat : Int)) ∧ w.cell? ⟨g, i * 3 + 1, none⟩ = some (.int .i64 (r.f : Int)) ∧ w.cell? ⟨g, i * 3 + 2, none⟩ = some (.int .i64 (r.t : Int)) := by
  obtain ⟨a, cap, hv, h1, h2, h3⟩ := row_form h.1
  refine ⟨a, cap, hv, h1, h2, fun i r hr => ?_⟩
  obtain ⟨c0, c1, c2⟩ := rcells_get L i r hr
  obtain ⟨g, hg, hl, e0⟩ := h3 _ _ c0
  obtain ⟨g1, hg1, -, e1⟩ := h3 _ _ c1
  obtain ⟨g2, hg2, -, e2⟩ := h3 _ _ c2
  rw [hg] at hg1 hg2
  simp only [Option.some.injEq, Addr.mk.injEq, and_true] at hg1 hg2
  exact ⟨g, hg, hl, e0, by rw [hg1]; exact e1, by rw [hg2]; exact e2⟩

theorem Up.cell {W w : World} {e : TypeId} {size : Nat} {v : Value} {n : Nat} {xs : List Value} (h : Up W e size v n xs w) {g j : Nat} {u : Value} (hg : g < W.heap.size) (hc : W.cell? ⟨g, j, none⟩ = some u) : w.cell? ⟨g, j, none⟩ = some u := (h.2.cell (p := ⟨g, j, none⟩) hg).trans hc

theorem rspl_next {W : World} {P : List Rn} {k : Nat} {L : List Rn} {w : World} {a : Option Addr} {cap : Nat} {r : Rn} {i : Int} (hi : i = ((k + 1 : Nat) : Int)) (_hr : P[k]? = some r) (hk : k < P.length) (hLk : L.length ≤ k) (hs : spL (P.drop k) = r :: spL (P.drop (k + 1))) (hL : L ++ spL (P.drop k) = spL P) (hU : RRow W (.slice a (L.length + 1) cap) (L ++ [r]) w) :
    RSplRel W P (.slice a (L.length + 1) cap) (.int .i64 i) w := by
  refine ⟨k + 1, L ++ [r], a, L.length + 1, cap, by rw [hi], hk, by simp; omega, rfl, by simp, ?_, hU⟩
  rw [← hL, hs, List.append_assoc]
  rfl

theorem rspl_skip {W : World} {P : List Rn} {k : Nat} {L : List Rn} {w : World} {a : Option Addr} {cap : Nat} {i : Int} (hi : i = ((k + 2 : Nat) : Int)) (hk : k + 1 < P.length) (hLk : L.length ≤ k) (hs : spL (P.drop k) = spL (P.drop (k + 2))) (hL : L ++ spL (P.drop k) = spL P) (hU : RRow W (.slice a L.length cap) L w) :
    RSplRel W P (.slice a L.length cap) (.int .i64 i) w :=
  ⟨k + 2, L, a, L.length, cap, by rw [hi], hk, by omega, rfl, rfl, by rw [← hs]; exact hL, hU⟩

theorem c_of {c : UInt8} {x : Nat} (h : ((c.toNat : Nat) : Int) = (x : Int)) (hx : x < 256) : c = UInt8.ofNat x := by
  apply UInt8.toNat_inj.1
  simp
  omega

set_option maxRecDepth 100000 in
set_option maxHeartbeats 1600000 in
theorem rSpl_any {W w : World} {a0 : Option Addr} {cap0 : Nat} {P : List Rn} (h : RRow W (.slice a0 P.length cap0) P w) (hP : P.length ≤ 100000) : Calls Tryz.prog 52 #[.slice a0 P.length cap0] w (RRowPost w (spL P)) := by
  obtain ⟨i0, hi, hz0, hz1, hz2⟩ := info_parts Tryz.infoRRune
  obtain ⟨a', c', hv, hc1, hc2, hcell⟩ := rrow_cells h
  simp only [Value.slice.injEq] at hv
  obtain ⟨rfl, -, rfl⟩ := hv
  have HC := Lib.hid hcell
  have R0 : Up w 97 3 (.slice none 0 0) 0 [] w := up_nil w _ 3
  have HR0 := Lib.hid R0
  unfold maxLen at hc2
  clear R0 h hcell
  go_enter Tryz.func52, Tryz.ntmps52
  go_wp2
  go_loopw [3, 4] (fun o i w' => RSplRel w P o i w') (fun _ i _ => P.length - (intOf i).toNat)
  case atStart => exact ⟨0, [], none, 0, 0, rfl, Nat.zero_le _, Nat.le_refl _, rfl, rfl, by simp, HR0.out⟩
  case round =>
    obtain ⟨k, L, a, n, cap, rfl, hk, hLk, rfl, rfl, hL, hU⟩ := hrel
    have HU := Lib.hid hU
    have HLL := Lib.hid hL
    clear hU hL
    by_cases hlt : k < P.length
    · obtain ⟨r, hr⟩ : ∃ r, P[k]? = some r := ⟨_, List.getElem?_eq_getElem hlt⟩
      obtain ⟨g, rfl, hg, d0, d1, d2⟩ := HC.out k r hr
      have e0 := Up.cell HU.out hg d0
      have e1 := Up.cell HU.out hg d1
      have e2 := Up.cell HU.out hg d2
      have HR := Lib.hid hr
      obtain ⟨x, hx⟩ : ∃ x : Int, ((r.c.toNat : Nat) : Int) = x := ⟨_, rfl⟩
      rw [hx] at e0
      have HX := Lib.hid hx
      have hki : (k : Int) < (P.length : Int) := by omega
      clear d0 d1 d2 hr hx
      by_cases hq : x = 92
      · subst hq
        have hc : r.c = 92 := c_of (x := 92) HX.out (by omega)
        have HCC := Lib.hid hc
        clear hc
        by_cases hn : k + 1 < P.length
        · obtain ⟨r2, hr2⟩ : ∃ r, P[k + 1]? = some r := ⟨_, List.getElem?_eq_getElem hn⟩
          obtain ⟨g2, hg2, -, d0, -, -⟩ := HC.out (k + 1) r2 hr2
          simp only [Option.some.injEq, Addr.mk.injEq, and_true] at hg2
          subst hg2
          have f0 := Up.cell HU.out hg d0
          have HR2 := Lib.hid hr2
          obtain ⟨y, hy⟩ : ∃ y : Int, ((r2.c.toNat : Nat) : Int) = y := ⟨_, rfl⟩
          rw [hy] at f0
          have HY := Lib.hid hy
          have hni : (k : Int) + 1 < (P.length : Int) := by omega
          clear d0 hr2 hy
          by_cases hq2 : y = 10
          · subst hq2
            go_wp2
            go_roundw
            case rel => exact rspl_skip (by simp; omega) hn hLk (by rw [drop_get HR.out, drop_get HR2.out]; exact spL_two HCC.out (c_of (x := 10) HY.out (by omega))) HLL.out HU.out
            case measure => simp [intOf]; omega
          · have hb : (y == 10) = false := by simpa using hq2
            go_wp2_with (at_builtin; refine wpList_append_ex rfl (.tmp 35) (.tmp 40) 94 rfl _ (app_up Tryz.underlying94 hi hz0 hz1 hz2 rfl (by decide) (by decide) (HU.out.alloc _) (src_three _ _ _ _ _) three_one (by omega)) ?_; intro v2 w2 hu2; obtain ⟨a2, cap2, rfl, -, -, -⟩ := row_form hu2.1; have U2 := Lib.hid (RRow.push r hu2 HX.out.symm rfl rfl); clear hu2)
            go_roundw
            case rel => exact rspl_next (by simp) HR.out hlt hLk (by rw [drop_get HR.out, drop_get HR2.out]; exact spL_next fun e => hq2 (by rw [← HY.out, e]; rfl)) HLL.out U2.out
            case measure => simp [intOf]; omega
        · have hni : ¬ (k : Int) + 1 < (P.length : Int) := by omega
          go_wp2_with (at_builtin; refine wpList_append_ex rfl (.tmp 35) (.tmp 40) 94 rfl _ (app_up Tryz.underlying94 hi hz0 hz1 hz2 rfl (by decide) (by decide) (HU.out.alloc _) (src_three _ _ _ _ _) three_one (by omega)) ?_; intro v2 w2 hu2; obtain ⟨a2, cap2, rfl, -, -, -⟩ := row_form hu2.1; have U2 := Lib.hid (RRow.push r hu2 HX.out.symm rfl rfl); clear hu2)
          go_roundw
          case rel => exact rspl_next (by simp) HR.out hlt hLk (by rw [drop_get HR.out, List.drop_eq_nil_of_le (by omega : P.length ≤ k + 1)]; rfl) HLL.out U2.out
          case measure => simp [intOf]; omega
      · have hb : (x == 92) = false := by simpa using hq
        have hc : ¬ r.c = 92 := fun e => hq (by rw [← HX.out, e]; rfl)
        have HCC := Lib.hid hc
        clear hc
        go_wp2_with (at_builtin; refine wpList_append_ex rfl (.tmp 35) (.tmp 40) 94 rfl _ (app_up Tryz.underlying94 hi hz0 hz1 hz2 rfl (by decide) (by decide) (HU.out.alloc _) (src_three _ _ _ _ _) three_one (by omega)) ?_; intro v2 w2 hu2; obtain ⟨a2, cap2, rfl, -, -, -⟩ := row_form hu2.1; have U2 := Lib.hid (RRow.push r hu2 HX.out.symm rfl rfl); clear hu2)
        go_roundw
        case rel => exact rspl_next (by simp) HR.out hlt hLk (by rw [drop_get HR.out]; exact spL_byte HCC.out) HLL.out U2.out
        case measure => simp [intOf]; omega
    · have hni : ¬ (k : Int) < (P.length : Int) := by omega
      go_wp2
      go_ret
      have h3 := HLL.out
      rw [List.drop_eq_nil_of_le (by omega : P.length ≤ k)] at h3
      rw [show L ++ spL [] = L from List.append_nil L] at h3
      rw [← h3]
      exact ⟨a, _, cap, rfl, rfl, HU.out⟩

end Go.Proofs.YtpnboieppkjfnaaGreat

/-
  Trigraph of the project, walked.
-/
namespace Go.Proofs.YtpnboieppkjfnaaGreat
open Go.RowKit

theorem sign_cases (c : UInt8) : (∃ k, k < 9 ∧ signL.getD k 0 = c) ∨ ∀ j < 9, signL.getD j 0 ≠ c := by
  by_cases h : ∃ k, k < 9 ∧ signL.getD k 0 = c
  · exact .inl h
  · exact .inr fun j hj e => h ⟨j, hj, e⟩

theorem index_at (k : Nat) (hk : k < 9) : Lib.indexByte signL (signL.getD k 0) = (k : Int) := by
  match k, hk with
  | 0, _ | 1, _ | 2, _ | 3, _ | 4, _ | 5, _ | 6, _ | 7, _ | 8, _ => decide
  | n + 9, h => omega

theorem index_out {c : UInt8} : ∀ l : List UInt8, (∀ b ∈ l, b ≠ c) → Lib.indexByte l c = -1
  | [], _ => rfl
  | b :: l, h => by
    have h1 := index_out l fun x hx => h x (List.mem_cons_of_mem _ hx)
    have h2 : (b == c) = false := by simpa using h b (List.mem_cons_self ..)
    rw [Lib.indexByte, h2, h1]
    rfl

theorem index_none {c : UInt8} (h : ∀ j < 9, signL.getD j 0 ≠ c) : Lib.indexByte signL c = -1 := by
  apply index_out
  intro b hb
  obtain ⟨j, hj, rfl⟩ := List.getElem_of_mem hb
  have := h j (by simpa [signL] using hj)
  simpa [List.getD, hj] using this

def IdxPost (w : World) (i : Int) (e : Ending) (w' : World) : Prop := e = .returned (.int .i64 i) ∧ w = w'

theorem idx_any (c : UInt8) (i : Int) (h : Lib.indexByte signL c = i) (w : World) : Calls Tryz.prog 154 #[.string ⟨#[61, 47, 39, 40, 41, 33, 60, 62, 45]⟩, .int .u8 (c.toNat : Int)] w (IdxPost w i) := by
  refine (Tryz.strings_IndexByte _ _ w).mono ?_
  rintro e w' ⟨rfl, rfl⟩
  refine ⟨?_, rfl⟩
  rw [← h]
  congr 2
  simp [signL]

set_option maxRecDepth 100000 in
set_option maxHeartbeats 1600000 in
theorem tri_any (c : UInt8) (w : World) : Calls Tryz.prog 149 #[.int .u8 (c.toNat : Int)] w (TriPost c w) := by
  have hc : (c.toNat : Int) < 256 := by have := c.toNat_lt; omega
  rcases sign_cases c with ⟨k, hk, hq⟩ | hn
  · have hI := index_at k hk
    rw [hq] at hI
    have HC := Lib.hid (idx_any c k hI w)
    have HQ := Lib.hid hq
    clear hI hq
    obtain rfl | rfl | rfl | rfl | rfl | rfl | rfl | rfl | rfl : k = 0 ∨ k = 1 ∨ k = 2 ∨ k = 3 ∨ k = 4 ∨ k = 5 ∨ k = 6 ∨ k = 7 ∨ k = 8 := by omega
    · go_enter Tryz.func149, Tryz.ntmps149
      go_wp2_with (go_at_call 154; (with_reducible refine HC.out.mono ?_); rintro e w1 ⟨rfl, rfl⟩)
      go_ret2
      exact triPost_sign 0 (by omega) _ HQ.out rfl
    · go_enter Tryz.func149, Tryz.ntmps149
      go_wp2_with (go_at_call 154; (with_reducible refine HC.out.mono ?_); rintro e w1 ⟨rfl, rfl⟩)
      go_ret2
      exact triPost_sign 1 (by omega) _ HQ.out rfl
    · go_enter Tryz.func149, Tryz.ntmps149
      go_wp2_with (go_at_call 154; (with_reducible refine HC.out.mono ?_); rintro e w1 ⟨rfl, rfl⟩)
      go_ret2
      exact triPost_sign 2 (by omega) _ HQ.out rfl
    · go_enter Tryz.func149, Tryz.ntmps149
      go_wp2_with (go_at_call 154; (with_reducible refine HC.out.mono ?_); rintro e w1 ⟨rfl, rfl⟩)
      go_ret2
      exact triPost_sign 3 (by omega) _ HQ.out rfl
    · go_enter Tryz.func149, Tryz.ntmps149
      go_wp2_with (go_at_call 154; (with_reducible refine HC.out.mono ?_); rintro e w1 ⟨rfl, rfl⟩)
      go_ret2
      exact triPost_sign 4 (by omega) _ HQ.out rfl
    · go_enter Tryz.func149, Tryz.ntmps149
      go_wp2_with (go_at_call 154; (with_reducible refine HC.out.mono ?_); rintro e w1 ⟨rfl, rfl⟩)
      go_ret2
      exact triPost_sign 5 (by omega) _ HQ.out rfl
    · go_enter Tryz.func149, Tryz.ntmps149
      go_wp2_with (go_at_call 154; (with_reducible refine HC.out.mono ?_); rintro e w1 ⟨rfl, rfl⟩)
      go_ret2
      exact triPost_sign 6 (by omega) _ HQ.out rfl
    · go_enter Tryz.func149, Tryz.ntmps149
      go_wp2_with (go_at_call 154; (with_reducible refine HC.out.mono ?_); rintro e w1 ⟨rfl, rfl⟩)
      go_ret2
      exact triPost_sign 7 (by omega) _ HQ.out rfl
    · go_enter Tryz.func149, Tryz.ntmps149
      go_wp2_with (go_at_call 154; (with_reducible refine HC.out.mono ?_); rintro e w1 ⟨rfl, rfl⟩)
      go_ret2
      exact triPost_sign 8 (by omega) _ HQ.out rfl
  · have HC := Lib.hid (idx_any c (-1) (index_none hn) w)
    have HN := Lib.hid hn
    clear hn
    go_enter Tryz.func149, Tryz.ntmps149
    go_wp2_with (go_at_call 154; (with_reducible refine HC.out.mono ?_); rintro e w1 ⟨rfl, rfl⟩)
    go_ret2
    exact triPost_none HN.out

def AtPost (l : List UInt8) (k : Nat) (w : World) (e : Ending) (w' : World) : Prop :=
  e = .returned (.tuple #[.int .u8 (((triAt l k).getD 0).toNat : Int), .bool (triAt l k).isSome]) ∧ w = w'

theorem at_none {l : List UInt8} {k : Nat} {w : World} (h : triAt l k = none) : AtPost l k w (.returned (.tuple #[.int .u8 0, .bool false])) w := by
  refine ⟨?_, rfl⟩
  rw [h]
  rfl
theorem at_is {l : List UInt8} {k : Nat} {w : World} {c : UInt8} (h : triAt l k = tri c) : AtPost l k w (.returned (.tuple #[.int .u8 ((triB c).toNat : Int), .bool (isTri c)])) w := by
  refine ⟨?_, rfl⟩
  rw [h]
  rfl

theorem triAt_short {s : ByteArray} {k : Nat} (h : ¬ k + 2 < s.size) : triAt s.data.toList k = none := by
  unfold triAt
  rw [if_neg]
  rw [len_byte]
  exact fun h1 => h h1.1
theorem triAt_a {s : ByteArray} {k : Nat} (hk : k < s.size) (h : ¬ s[k] = 63) : triAt s.data.toList k = none := by
  apply triAt_not
  rw [get_byte s k hk]
  exact h
theorem triAt_b {s : ByteArray} {k : Nat} (hk : k + 1 < s.size) (h : ¬ s[k + 1] = 63) : triAt s.data.toList k = none := by
  apply triAt_not2
  rw [get_byte s (k + 1) hk]
  exact h
theorem triAt_c {s : ByteArray} {k : Nat} (hk : k + 2 < s.size) (ha : s[k] = 63) (hb : s[k + 1] = 63) : triAt s.data.toList k = tri s[k + 2] := by
  unfold triAt
  rw [if_pos ⟨by rw [len_byte]; exact hk, by rw [get_byte s k (by omega)]; exact ha, by rw [get_byte s (k + 1) (by omega)]; exact hb⟩, get_byte s (k + 2) hk]

theorem byte_is {c : UInt8} {x : Nat} (hx : x < 256) (h : ¬ c = UInt8.ofNat x) : ¬ ((c.toNat : Nat) : Int) = (x : Int) := fun e => h (by
  apply UInt8.toNat_inj.1
  simp
  omega)

set_option maxRecDepth 100000 in
set_option maxHeartbeats 1600000 in
theorem triAt_any (s : ByteArray) (k : Nat) (w : World) (hk : k < s.size) (hs : s.size ≤ 100000) : Calls Tryz.prog 143 #[.string s, .int .i64 (k : Int)] w (AtPost s.data.toList k w) := by
  by_cases h2 : k + 2 < s.size
  · by_cases ha : s[k] = 63
    · by_cases hb : s[k + 1] = 63
      · have HT := Lib.hid (triAt_c h2 ha hb)
        have ea : (((s[k].toNat : Nat) : Int) != 63) = false := by rw [ha]; rfl
        have eb : (((s[k + 1].toNat : Nat) : Int) != 63) = false := by rw [hb]; rfl
        clear ha hb
        go_enter Tryz.func143, Tryz.ntmps143
        go_wp2_with (go_at_call 149; (with_reducible refine (tri_any (s[k + 2]'h2) _).mono ?_); rintro e w1 ⟨rfl, rfl⟩)
        go_ret2
        exact at_is HT.out
      · have HT := Lib.hid (triAt_b (by omega) hb)
        have ea : (((s[k].toNat : Nat) : Int) != 63) = false := by rw [ha]; rfl
        have eb : (((s[k + 1].toNat : Nat) : Int) != 63) = true := by simpa using byte_is (x := 63) (by omega) hb
        clear ha hb
        go_enter Tryz.func143, Tryz.ntmps143
        go_wp2
        go_ret2
        exact at_none HT.out
    · have HT := Lib.hid (triAt_a (by omega) ha)
      have ea : (((s[k].toNat : Nat) : Int) != 63) = true := by simpa using byte_is (x := 63) (by omega) ha
      clear ha
      go_enter Tryz.func143, Tryz.ntmps143
      go_wp2
      go_ret2
      exact at_none HT.out
  · have HT := Lib.hid (triAt_short h2)
    go_enter Tryz.func143, Tryz.ntmps143
    go_wp2
    go_ret2
    exact at_none HT.out

end Go.Proofs.YtpnboieppkjfnaaGreat
