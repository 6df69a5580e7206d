/-
  Texts of the proof, put together: Take, RChars, Chars.
-/
import Derived.Test.YtpnboieppkjfnaaGreatG16

/-
  take of the project, walked: the character at a place, and whether it stands.
-/
namespace Go.Proofs.YtpnboieppkjfnaaGreat
open Go.RowKit

def TakeIs (r : Rn) (st : Bool) (W : World) (e : Ending) (w' : World) : Prop :=
  e = .returned (.tuple #[.agg #[.int .u8 (r.c.toNat : Int), .int .i64 (r.f : Int), .int .i64 (r.t : Int)], .bool st]) ∧ Below W.heap.size W w'

theorem tk_out {l : List UInt8} {k : Nat} {r : Rn} (h : one l k = r) (h1 : r.c = 92) (h2 : r.t < l.length) (h3 : l.getD r.t 0 = 10) : tk l k = (⟨r.c, r.f, r.t + 1⟩, false) := by
  have hf := one_f l k
  unfold tk
  rw [if_pos]
  · rw [h] at hf ⊢
    rw [hf]
  · unfold spl
    rw [h, decide_eq_true h1, decide_eq_true h2, decide_eq_true h3]
    rfl
theorem tk_in {l : List UInt8} {k : Nat} {r : Rn} (h : one l k = r) (h1 : ¬ (r.c = 92 ∧ r.t < l.length ∧ l.getD r.t 0 = 10)) : tk l k = (r, true) := by
  unfold tk
  rw [if_neg, h]
  rw [h]
  intro hs
  exact h1 (spl_true hs)

theorem take_done {l : List UInt8} {k : Nat} {r : Rn} {st : Bool} {W w' : World} {x y z : Int} (h : tk l k = (r, st)) (hx : x = (r.c.toNat : Int)) (hy : y = (r.f : Int)) (hz : z = (r.t : Int)) (hb : Below W.heap.size W w') :
    TakeIs (tk l k).1 (tk l k).2 W (.returned (.tuple #[.agg #[.int .u8 x, .int .i64 y, .int .i64 z], .bool st])) w' := by
  rw [h, hx, hy, hz]
  exact ⟨rfl, hb⟩

theorem below_two (w : World) (o p : Obj) : Below w.heap.size w ((w.alloc o).alloc p) := ((Below.refl _ _).alloc (Nat.le_refl _) _).alloc (by simp) _

theorem byte_eq {c : UInt8} {x : Nat} (h : c = UInt8.ofNat x) (hx : x < 256) : ((c.toNat : Nat) : Int) = (x : Int) := by
  rw [h]
  simp
  omega

/-- take, where the character is known: behind the call of trigraphAt. -/
theorem one_of_some {l : List UInt8} {k : Nat} {d : UInt8} (h : triAt l k = some d) : one l k = ⟨d, k, k + 3⟩ := by unfold one; rw [h]
theorem one_of_none {l : List UInt8} {k : Nat} (h : triAt l k = none) : one l k = ⟨l.getD k 0, k, k + 1⟩ := by unfold one; rw [h]

set_option maxRecDepth 100000 in
set_option maxHeartbeats 1600000 in
theorem take_some (s : ByteArray) (k : Nat) (d : UInt8) (w : World) (hs : s.size ≤ 100000) (hd : triAt s.data.toList k = some d) :
    Calls Tryz.prog 138 #[.string s, .int .i64 (k : Int)] w (TakeIs (tk s.data.toList k).1 (tk s.data.toList k).2 w) := by
  have hk : k + 2 < s.size := by have := (triAt_some hd).1; rw [len_byte] at this; exact this
  have ho := one_of_some hd
  have hl := len_byte s
  have hat : ∀ W : World, Calls Tryz.prog 143 #[.string s, .int .i64 (k : Int)] W fun e w' => e = .returned (.tuple #[.int .u8 (d.toNat : Int), .bool true]) ∧ W = w' := by
    intro W
    refine (triAt_any s k W (by omega) hs).mono ?_
    rintro e w' ⟨rfl, rfl⟩
    rw [hd]
    exact ⟨rfl, rfl⟩
  have HAT := Lib.hid hat
  have HO := Lib.hid ho
  have HL := Lib.hid hl
  obtain ⟨x, hx⟩ : ∃ x : Int, ((d.toNat : Nat) : Int) = x := ⟨_, rfl⟩
  have HX := Lib.hid hx
  rw [hx] at HAT
  clear hat ho hl hx hd
  by_cases hq : x = 92
  · subst hq
    have hc : d = 92 := c_of (x := 92) HX.out (by omega)
    by_cases h3 : k + 3 < s.size
    · by_cases hy : s[k + 3] = 10
      · have HT := Lib.hid (tk_out HO.out hc (by rw [HL.out]; exact h3) (by rw [get_byte s (k + 3) h3]; exact hy))
        have ey : (((s[k + 3].toNat : Nat) : Int) == 10) = true := by rw [hy]; rfl
        clear hy hc
        go_enter Tryz.func138, Tryz.ntmps138
        go_wp2_with (go_at_call 143; (with_reducible refine (HAT.out _).mono ?_); rintro e w1 ⟨rfl, rfl⟩)
        exact bodyPost_ret (v := .tuple #[.agg #[.int .u8 92, .int .i64 (k : Int), .int .i64 ((k : Int) + 3 + 1)], .bool false]) (by simp [results, Tryz.results138, go_sem]) rfl (take_done HT.out (by first | rfl | exact HX.out.symm) (by simp) (by simp) (below_two _ _ _))
      · have HT := Lib.hid (tk_in HO.out fun h => hy (by have := h.2.2; rw [get_byte s (k + 3) h3] at this; exact this))
        have ey : (((s[k + 3].toNat : Nat) : Int) == 10) = false := by simpa using byte_is (x := 10) (by omega) hy
        clear hy hc
        go_enter Tryz.func138, Tryz.ntmps138
        go_wp2_with (go_at_call 143; (with_reducible refine (HAT.out _).mono ?_); rintro e w1 ⟨rfl, rfl⟩)
        exact bodyPost_ret (v := .tuple #[.agg #[.int .u8 92, .int .i64 (k : Int), .int .i64 ((k : Int) + 3)], .bool true]) (by simp [results, Tryz.results138, go_sem]) rfl (take_done HT.out (by first | rfl | exact HX.out.symm) (by simp) (by simp) (below_two _ _ _))
    · have HT := Lib.hid (tk_in HO.out fun h => h3 (by have := h.2.1; rw [HL.out] at this; exact this))
      have h3i : ¬ (k : Int) + 3 < (s.size : Int) := by omega
      clear hc
      go_enter Tryz.func138, Tryz.ntmps138
      go_wp2_with (go_at_call 143; (with_reducible refine (HAT.out _).mono ?_); rintro e w1 ⟨rfl, rfl⟩)
      exact bodyPost_ret (v := .tuple #[.agg #[.int .u8 92, .int .i64 (k : Int), .int .i64 ((k : Int) + 3)], .bool true]) (by simp [results, Tryz.results138, go_sem]) rfl (take_done HT.out (by first | rfl | exact HX.out.symm) (by simp) (by simp) (below_two _ _ _))
  · have hb : (x == 92) = false := by simpa using hq
    have HT := Lib.hid (tk_in HO.out fun h => hq (by have e : d = 92 := h.1; rw [← HX.out, e]; rfl))
    go_enter Tryz.func138, Tryz.ntmps138
    go_wp2_with (go_at_call 143; (with_reducible refine (HAT.out _).mono ?_); rintro e w1 ⟨rfl, rfl⟩)
    exact bodyPost_ret (v := .tuple #[.agg #[.int .u8 x, .int .i64 (k : Int), .int .i64 ((k : Int) + 3)], .bool true]) (by simp [results, Tryz.results138, go_sem]) rfl (take_done HT.out (by first | rfl | exact HX.out.symm) (by simp) (by simp) (below_two _ _ _))

set_option maxRecDepth 100000 in
set_option maxHeartbeats 1600000 in
theorem take_none (s : ByteArray) (k : Nat) (w : World) (hs : s.size ≤ 100000) (hk : k < s.size) (hd : triAt s.data.toList k = none) :
    Calls Tryz.prog 138 #[.string s, .int .i64 (k : Int)] w (TakeIs (tk s.data.toList k).1 (tk s.data.toList k).2 w) := by
  have ho := one_of_none hd
  rw [get_byte s k hk] at ho
  have hl := len_byte s
  have hat : ∀ W : World, Calls Tryz.prog 143 #[.string s, .int .i64 (k : Int)] W fun e w' => e = .returned (.tuple #[.int .u8 0, .bool false]) ∧ W = w' := by
    intro W
    refine (triAt_any s k W hk hs).mono ?_
    rintro e w' ⟨rfl, rfl⟩
    rw [hd]
    exact ⟨rfl, rfl⟩
  have HAT := Lib.hid hat
  have HO := Lib.hid ho
  have HL := Lib.hid hl
  obtain ⟨x, hx⟩ : ∃ x : Int, ((s[k].toNat : Nat) : Int) = x := ⟨_, rfl⟩
  have HX := Lib.hid hx
  clear hat ho hl hd
  by_cases hq : x = 92
  · subst hq
    have hc : s[k] = 92 := c_of (x := 92) HX.out (by omega)
    by_cases h3 : k + 1 < s.size
    · by_cases hy : s[k + 1] = 10
      · have HT := Lib.hid (tk_out HO.out hc (by rw [HL.out]; exact h3) (by rw [get_byte s (k + 1) h3]; exact hy))
        have ey : (((s[k + 1].toNat : Nat) : Int) == 10) = true := by rw [hy]; rfl
        clear hy hc
        go_enter Tryz.func138, Tryz.ntmps138
        go_wp2_with (go_at_call 143; (with_reducible refine (HAT.out _).mono ?_); rintro e w1 ⟨rfl, rfl⟩)
        exact bodyPost_ret (v := .tuple #[.agg #[.int .u8 92, .int .i64 (k : Int), .int .i64 ((k : Int) + 1 + 1)], .bool false]) (by simp [results, Tryz.results138, go_sem]) rfl (take_done HT.out (by first | rfl | exact HX.out.symm) (by simp) (by simp) (below_two _ _ _))
      · have HT := Lib.hid (tk_in HO.out fun h => hy (by have := h.2.2; rw [get_byte s (k + 1) h3] at this; exact this))
        have ey : (((s[k + 1].toNat : Nat) : Int) == 10) = false := by simpa using byte_is (x := 10) (by omega) hy
        clear hy hc
        go_enter Tryz.func138, Tryz.ntmps138
        go_wp2_with (go_at_call 143; (with_reducible refine (HAT.out _).mono ?_); rintro e w1 ⟨rfl, rfl⟩)
        exact bodyPost_ret (v := .tuple #[.agg #[.int .u8 92, .int .i64 (k : Int), .int .i64 ((k : Int) + 1)], .bool true]) (by simp [results, Tryz.results138, go_sem]) rfl (take_done HT.out (by first | rfl | exact HX.out.symm) (by simp) (by simp) (below_two _ _ _))
    · have HT := Lib.hid (tk_in HO.out fun h => h3 (by have := h.2.1; rw [HL.out] at this; exact this))
      have h3i : ¬ (k : Int) + 1 < (s.size : Int) := by omega
      clear hc
      go_enter Tryz.func138, Tryz.ntmps138
      go_wp2_with (go_at_call 143; (with_reducible refine (HAT.out _).mono ?_); rintro e w1 ⟨rfl, rfl⟩)
      exact bodyPost_ret (v := .tuple #[.agg #[.int .u8 92, .int .i64 (k : Int), .int .i64 ((k : Int) + 1)], .bool true]) (by simp [results, Tryz.results138, go_sem]) rfl (take_done HT.out (by first | rfl | exact HX.out.symm) (by simp) (by simp) (below_two _ _ _))
  · have hb : (x == 92) = false := by simpa using hq
    have HT := Lib.hid (tk_in HO.out fun h => hq (by have e : s[k] = 92 := h.1; rw [← HX.out, e]; rfl))
    go_enter Tryz.func138, Tryz.ntmps138
    go_wp2_with (go_at_call 143; (with_reducible refine (HAT.out _).mono ?_); rintro e w1 ⟨rfl, rfl⟩)
    exact bodyPost_ret (v := .tuple #[.agg #[.int .u8 x, .int .i64 (k : Int), .int .i64 ((k : Int) + 1)], .bool true]) (by simp [results, Tryz.results138, go_sem]) rfl (take_done HT.out (by first | rfl | exact HX.out.symm) (by simp) (by simp) (below_two _ _ _))

theorem take_any (s : ByteArray) (k : Nat) (w : World) (hs : s.size ≤ 100000) (hk : k < s.size) :
    Calls Tryz.prog 138 #[.string s, .int .i64 (k : Int)] w (TakeIs (tk s.data.toList k).1 (tk s.data.toList k).2 w) := by
  cases h : triAt s.data.toList k with
  | some d => exact take_some s k d w hs h
  | none => exact take_none s k w hs hk h

end Go.Proofs.YtpnboieppkjfnaaGreat

/-
  The document's own Chars, in memory.
-/
namespace Go.Proofs.YtpnboieppkjfnaaGreat
open Go.RowKit

theorem Up.lower {W W1 w : World} {e : TypeId} {size : Nat} {v : Value} {n : Nat} {xs : List Value} (h : Up W1 e size v n xs w) (b : Below W.heap.size W W1) : Up W e size v n xs w :=
  ⟨row_low h.1 b.size, b.trans (h.2.mono b.size)⟩

theorem endsNl_last {L : List Rn} {m : Nat} {r : Rn} (hm : L.length = m + 1) (hr : L[m]? = some r) : endsNl L = decide (r.c = 10) := by
  unfold endsNl
  rw [List.getLast?_eq_getElem?, hm, Nat.add_sub_cancel, hr]
theorem endsNl_nil : endsNl [] = false := rfl

theorem charsL_ends {l : List UInt8} (hl : l ≠ []) (h : endsNl (chs l 0) = true) : charsL l = chs l 0 := by
  unfold charsL withNl
  rw [if_neg hl, if_pos h]
theorem charsL_not {l : List UInt8} (hl : l ≠ []) (h : endsNl (chs l 0) = false) : charsL l = chs l 0 ++ [⟨10, l.length, l.length⟩] := by
  unfold charsL withNl
  rw [if_neg hl, if_neg (by rw [h]; simp)]

theorem list_ne {s : ByteArray} (h : 0 < s.size) : s.data.toList ≠ [] := by
  intro e
  have := len_byte s
  rw [e] at this
  simp at this
  omega

theorem list_nil {s : ByteArray} (h : ¬ 0 < s.size) : s.data.toList = [] := List.eq_nil_of_length_eq_zero (by rw [len_byte]; omega)

set_option maxRecDepth 100000 in
set_option maxHeartbeats 1600000 in
theorem rChars_any (s : ByteArray) (w : World) (hs : s.size ≤ 100000) : Calls Tryz.prog 33 #[.string s] w (RRowPost w (charsL s.data.toList)) := by
  obtain ⟨i0, hi, hz0, hz1, hz2⟩ := info_parts Tryz.infoRRune
  have hlen := len_byte s
  have hpl := pls_len s.data.toList _ 0 (Nat.le_refl _)
  have hcl := chs_len s.data.toList _ 0 (Nat.le_refl _)
  have hsp := spL_all s.data.toList
  obtain ⟨P, hP⟩ : ∃ P, pls s.data.toList 0 = P := ⟨_, rfl⟩
  obtain ⟨C, hC⟩ : ∃ C, chs s.data.toList 0 = C := ⟨_, rfl⟩
  rw [hP] at hpl hsp
  rw [hC] at hcl hsp
  rw [hlen] at hpl hcl
  have HP := Lib.hid hP
  have HCC := Lib.hid hC
  have HSP := Lib.hid hsp
  have HL := Lib.hid hlen
  clear hlen hP hC hsp
  go_enter Tryz.func33, Tryz.ntmps33
  go_wp2_with (go_at_call 53; (with_reducible refine (rPlain_any s _ hs).mono ?_); rw [HP.out]; rintro e w1 ⟨a1, n1, cap1, rfl, rfl, u1⟩; have U1 := Lib.hid u1; clear u1)
  go_at_call 52
  (with_reducible refine (rSpl_any U1.out (by omega)).mono ?_)
  rw [HSP.out]
  rintro e w2 ⟨a2, n, cap2, hn, rfl, u2⟩
  have hu := Up.lower u2 U1.out.2
  obtain ⟨a', c', hv, hc1, hc2, hcell⟩ := rrow_cells (W := w) (L := C) hu
  simp only [Value.slice.injEq] at hv
  obtain ⟨rfl, -, rfl⟩ := hv
  have HC := Lib.hid hcell
  have hu' : Up w 97 3 (.slice a2 n cap2) n (rcells C) w2 := by
    unfold RRow at hu
    rw [← hn] at hu
    exact hu
  have U2 := Lib.hid hu'
  have HN := Lib.hid hn
  unfold maxLen at hc2
  rw [← hn] at hc1 hcl
  clear u2 hn hu hu' hcell
  by_cases hz : 0 < s.size
  · have hzi : (0 : Int) < (s.size : Int) := by omega
    cases n with
    | zero =>
      obtain rfl : C = [] := List.eq_nil_of_length_eq_zero HN.out.symm
      go_wp2_with (at_builtin; refine wpList_append_ex rfl (.tmp 25) (.tmp 31) 94 rfl _ (app_up Tryz.underlying94 hi hz0 hz1 hz2 rfl (by decide) (by decide) (U2.out.alloc _) (src_three _ _ _ _ _) three_one (by omega)) ?_; intro v3 w3 hu3; simp only [Nat.zero_add] at hu3; obtain ⟨a3, cap3, rfl, -, -, -⟩ := row_form hu3.1; have U3 := Lib.hid hu3; clear hu3)
      go_ret
      refine ⟨a3, 1, cap3, ?_, rfl, ?_⟩ <;> rw [charsL_not (list_ne hz) (by rw [HCC.out]; rfl), HCC.out, HL.out]
      · rfl
      · exact U3.out
    | succ m =>
      have hm : m < C.length := by have := HN.out; omega
      obtain ⟨r, hr⟩ : ∃ r, C[m]? = some r := ⟨_, List.getElem?_eq_getElem hm⟩
      obtain ⟨g, rfl, hg, e0, -, -⟩ := HC.out m r hr
      have HE := Lib.hid (endsNl_last HN.out.symm hr)
      obtain ⟨x, hx⟩ : ∃ x : Int, ((r.c.toNat : Nat) : Int) = x := ⟨_, rfl⟩
      rw [hx] at e0
      have HX := Lib.hid hx
      clear hr hx hm
      by_cases hq : x = 10
      · subst hq
        have hc : r.c = 10 := c_of (x := 10) HX.out (by omega)
        have HR := Lib.hid hc
        clear hc
        go_wp2
        go_ret
        refine ⟨some ⟨g, 0, none⟩, m + 1, cap2, ?_, rfl, ?_⟩ <;> rw [charsL_ends (list_ne hz) (by rw [HCC.out, HE.out, HR.out]; rfl), HCC.out]
        · exact HN.out
        · have h := U2.out
          unfold RRow
          rw [← HN.out]
          exact h
      · have hb : (x == 10) = false := by simpa using hq
        have hb2 : (x != 10) = true := by simpa using hq
        have hm0 : ((m : Int) + 1 == 0) = false := by simp; omega
        have hc : decide (r.c = 10) = false := by
          rw [decide_eq_false_iff_not]
          intro e
          apply hq
          rw [← HX.out, e]
          rfl
        have HR := Lib.hid hc
        clear hc
        go_wp2_with (at_builtin; refine wpList_append_ex rfl (.tmp 25) (.tmp 31) 94 rfl _ (app_up Tryz.underlying94 hi hz0 hz1 hz2 rfl (by decide) (by decide) (U2.out.alloc _) (src_three _ _ _ _ _) three_one (by omega)) ?_; intro v3 w3 hu3; obtain ⟨a3, cap3, rfl, -, -, -⟩ := row_form hu3.1; have U3 := Lib.hid hu3; clear hu3)
        go_ret
        refine ⟨a3, m + 1 + 1, cap3, ?_, rfl, ?_⟩ <;> rw [charsL_not (list_ne hz) (by rw [HCC.out, HE.out, HR.out]), HCC.out, HL.out]
        · rw [List.length_append, ← HN.out]
          rfl
        · have h := U3.out
          rw [rcells_push (x := 10) (y := (s.size : Int)) (z := (s.size : Int)) (r := ⟨10, s.size, s.size⟩) rfl rfl rfl] at h
          unfold RRow
          rw [List.length_append, ← HN.out]
          exact h
  · have hzi : ¬ (0 : Int) < (s.size : Int) := by omega
    go_wp2
    go_ret
    have e1 := list_nil hz
    have e2 : C = [] := List.eq_nil_of_length_eq_zero (by have := HN.out; omega)
    subst e2
    have e3 : charsL s.data.toList = [] := by unfold charsL; rw [if_pos e1]
    rw [e3]
    refine ⟨a2, n, cap2, HN.out, rfl, ?_⟩
    have h := U2.out
    have e4 : n = 0 := HN.out
    subst e4
    exact h

end Go.Proofs.YtpnboieppkjfnaaGreat

/-
  Chars of the project, in memory.
-/
namespace Go.Proofs.YtpnboieppkjfnaaGreat
open Go.RowKit

theorem Tryz.infoPRune : (Tryz.prog.info? 199).map (fun i => (i.zero, i.size, i.bytes)) = some (some (.agg #[.int .u8 0, .int .i64 0, .int .i64 0]), 3, 24) := by kernel_rfl

/-- A row of the project's characters. -/
def CRow (W : World) (v : Value) (L : List Rn) (w : World) : Prop := Up W 199 3 v L.length (rcells L) w
def CRowPost (W : World) (L : List Rn) (e : Ending) (w' : World) : Prop :=
  ∃ (a : Option Addr) (n cap : Nat), n = L.length ∧ e = .returned (.slice a n cap) ∧ CRow W (.slice a n cap) L w'

theorem CRow.push {W : World} {v : Value} {L : List Rn} {w : World} {x y z : Int} (r : Rn) (h : Up W 199 3 v (L.length + 1) (rcells L ++ [.int .u8 x, .int .i64 y, .int .i64 z]) w) (hx : x = (r.c.toNat : Int)) (hy : y = (r.f : Int)) (hz : z = (r.t : Int)) : CRow W v (L ++ [r]) w := by
  rw [rcells_push hx hy hz] at h
  unfold CRow
  rw [List.length_append]
  exact h

theorem crow_cells {W : World} {v : Value} {L : List Rn} {w : World} (h : CRow W v L w) : ∃ a cap, v = .slice a L.length cap ∧ L.length ≤ cap ∧ cap ≤ maxLen ∧ ∀ i r, L[i]? = some r → ∃ g, a = some ⟨g, 0, none⟩ ∧ g < w.heap.size ∧
    w.cell? ⟨g, i * 3, none⟩ = some (.int .u8 (r.c.toNat : Int)) ∧ w.cell? ⟨g, i * 3 + 1, none⟩ = some (.int .i64 (r.f : Int)) ∧ w.cell? ⟨g, i * 3 + 2, none⟩ = some (.int .i64 (r.t : Int)) := by
  obtain ⟨a, cap, hv, h1, h2, h3⟩ := row_form h.1
  refine ⟨a, cap, hv, h1, h2, fun i r hr => ?_⟩
  obtain ⟨c0, c1, c2⟩ := rcells_get L i r hr
  obtain ⟨g, hg, hl, e0⟩ := h3 _ _ c0
  obtain ⟨g1, hg1, -, e1⟩ := h3 _ _ c1
  obtain ⟨g2, hg2, -, e2⟩ := h3 _ _ c2
  rw [hg] at hg1 hg2
  simp only [Option.some.injEq, Addr.mk.injEq, and_true] at hg1 hg2
  exact ⟨g, hg, hl, e0, by rw [hg1]; exact e1, by rw [hg2]; exact e2⟩

theorem own_ne {B : Nat} {w : World} {e : TypeId} {size : Nat} {v : Value} {n : Nat} {xs : List Value} (h : w.ownsRow B e size v n xs) : v.ownBlock ≠ some w.heap.size := by
  intro hk
  exact absurd (World.ownsRow.lt h _ hk).2 (Nat.lt_irrefl _)

/-- An append behind two fresh blocks: the first of them stays. -/
theorem app_keep {t ty e : TypeId} {i0 : TypeInfo} {z : Value} {size bytes : Nat} {n m : Nat} {v sv : Value} {xs news : List Value} {W w : World} {o1 o2 : Obj}
    (ht : Tryz.prog.underlying t = some (.slice e)) (hi : Tryz.prog.info? e = some i0) (hz : i0.zero = some z) (hsz : i0.size = size) (hby : i0.bytes = bytes) (hzs : z.cells.size = size) (hpos : 0 < size) (hbb : bytes ≤ 100)
    (hd : Up W e size v n xs w) (hs : Src ((w.alloc o1).alloc o2) sv m size news) (h1 : ∀ u ∈ news, u.oneCell' = true) (hn : n + m ≤ 1000000) :
    ∃ v' w', (Builtin.append_ #[t, t] ty #[v, sv]).run Tryz.prog ((w.alloc o1).alloc o2) = .ok v' w' ∧ (Up W e size v' (n + m) (xs ++ news) w' ∧ w'.heap[w.heap.size]? = some o1) := by
  have hd2 := (hd.alloc o1).alloc o2
  obtain ⟨v', w', hr, h2, h3⟩ := run_app (ty := ty) ht hi hz hsz hby hzs hpos hbb hd2.1 hs h1 hn hd2.2.size
  refine ⟨v', w', hr, ⟨h2, hd2.2.grown h3 hd2.2.size fun k hk => (World.ownsRow.lt hd2.1 k hk).1⟩, ?_⟩
  rw [h3.block w.heap.size (by simp; omega) (own_ne hd.1).symm, Below.heap_alloc _ _ _ (by simp)]
  exact heap_alloc_new _ _

theorem src_three2 (w : World) (o : Obj) (x y z : Int) (e : TypeId) : Src ((w.alloc o).alloc (.cells #[.int .u8 x, .int .i64 y, .int .i64 z] e)) (.slice (some ⟨w.heap.size + 1, 0, none⟩) 1 1) 1 3 [.int .u8 x, .int .i64 y, .int .i64 z] := by
  have h := src_three (w.alloc o) x y z e
  rw [show (w.alloc o).heap.size = w.heap.size + 1 from by simp] at h
  exact h

def CRel (W : World) (l : List UInt8) (o i : Value) (w : World) : Prop :=
  ∃ (k : Nat) (L : List Rn) (a : Option Addr) (n cap : Nat), i = .int .i64 (k : Int) ∧ k ≤ l.length ∧ L.length ≤ k ∧ o = .slice a n cap ∧ n = L.length ∧ L ++ chs l k = chs l 0 ∧ CRow W o L w

theorem chs_in {l : List UInt8} {k : Nat} {r : Rn} (hk : k < l.length) (h : tk l k = (r, true)) : chs l k = r :: chs l r.t := by
  rw [chs_step hk, h]
  rfl
theorem chs_out {l : List UInt8} {k : Nat} {r : Rn} (hk : k < l.length) (h : tk l k = (r, false)) : chs l k = chs l r.t := by
  rw [chs_step hk, h]
  rfl

theorem crel_in {W : World} {l : List UInt8} {k : Nat} {L : List Rn} {w : World} {a : Option Addr} {cap : Nat} {r : Rn} (hk : k < l.length) (hLk : L.length ≤ k) (ho : tk l k = (r, true)) (hL : L ++ chs l k = chs l 0) (hU : CRow W (.slice a (L.length + 1) cap) (L ++ [r]) w) :
    CRel W l (.slice a (L.length + 1) cap) (.int .i64 (r.t : Int)) w := by
  have h1 : k < r.t ∧ r.t ≤ k + 4 ∧ (k < l.length → r.t ≤ l.length) := by
    have := tk_t l k
    rw [ho] at this
    exact this
  refine ⟨r.t, L ++ [r], a, L.length + 1, cap, rfl, h1.2.2 hk, by simp; omega, rfl, by simp, ?_, hU⟩
  rw [← hL, chs_in hk ho, List.append_assoc]
  rfl
theorem crel_out {W : World} {l : List UInt8} {k : Nat} {L : List Rn} {w : World} {a : Option Addr} {cap : Nat} {r : Rn} (hk : k < l.length) (hLk : L.length ≤ k) (ho : tk l k = (r, false)) (hL : L ++ chs l k = chs l 0) (hU : CRow W (.slice a L.length cap) L w) :
    CRel W l (.slice a L.length cap) (.int .i64 (r.t : Int)) w := by
  have h1 : k < r.t ∧ r.t ≤ k + 4 ∧ (k < l.length → r.t ≤ l.length) := by
    have := tk_t l k
    rw [ho] at this
    exact this
  exact ⟨r.t, L, a, L.length, cap, rfl, h1.2.2 hk, by omega, rfl, rfl, by rw [← hL, chs_out hk ho], hU⟩

theorem Up.over {W w w' : World} {e : TypeId} {size : Nat} {v : Value} {n : Nat} {xs : List Value} (h : Up W e size v n xs w) (b : Below w.heap.size w w') : Up W e size v n xs w' := by
  have hg : w.grownBy w' none := ⟨b.os, b.tape, b.output, b.size, fun k hk _ => b.block k hk⟩
  exact ⟨World.ownsRow.kept h.1 hg (by cases v.ownBlock <;> simp), h.2.trans (b.mono h.2.size)⟩

theorem empty_no {s : ByteArray} (h : 0 < s.size) : s.toList.isEmpty = false := by
  rw [ByteArray.toList_eq]
  have := list_ne h
  cases hq : s.data.toList with
  | nil => exact absurd hq this
  | cons a r => rfl
theorem empty_yes {s : ByteArray} (h : ¬ 0 < s.size) : s.toList.isEmpty = true := by
  rw [ByteArray.toList_eq, list_nil h]
  rfl

theorem heap_cells {w : World} {b : Nat} {x y z : Value} {T : TypeId} (h : w.heap[b]? = some (.cells #[x, y, z] T (0, 0))) : w.cell? ⟨b, 2, none⟩ = some z := by
  rw [Lib.cell_of_heap h]
  rfl

set_option maxRecDepth 100000 in
set_option maxHeartbeats 1600000 in
theorem chars_some (s : ByteArray) (w : World) (hs : s.size ≤ 100000) (h0 : 0 < s.size) : Calls Tryz.prog 125 #[.string s] w (CRowPost w (charsL s.data.toList)) := by
  obtain ⟨i0, hi, hz0, hz1, hz2⟩ := info_parts Tryz.infoPRune
  have hlen := len_byte s
  have HL := Lib.hid hlen
  have hne := empty_no h0
  have hcl := chs_len s.data.toList _ 0 (Nat.le_refl _)
  obtain ⟨C, hC⟩ : ∃ C, chs s.data.toList 0 = C := ⟨_, rfl⟩
  rw [hC] at hcl
  rw [hlen] at hcl
  have HCC := Lib.hid hC
  clear hlen hC
  go_enter Tryz.func125, Tryz.ntmps125
  go_wp2_with (at_make; refine wpList_make_own _ rfl _ _ 179 rfl w.heap.size 199 i0 (.agg #[.int .u8 0, .int .i64 0, .int .i64 0]) 3 Tryz.underlying179 hi hz0 hz1 .i64 .i64 _ (s.size + 1) rfl rfl (by simp) (by rw [hz2]; omega) (by unfold maxLen; omega) (Nat.le_refl _) ?_; intro w0 hown0 hgrow0; have hu0 : Up w 199 3 (.slice (some ⟨w.heap.size, 0, none⟩) 0 (s.size + 1)) 0 [] w0 := ⟨hown0, (Below.refl _ _).grown hgrow0 (Nat.le_refl _) (by intro k hk; cases hk)⟩; have HU0 := Lib.hid hu0; clear hown0 hgrow0 hu0)
  go_loopw [3, 4] (fun o i w' => CRel w s.data.toList o i w') (fun _ i _ => s.size - (intOf i).toNat)
  case atStart => exact ⟨0, [], _, 0, _, rfl, Nat.zero_le _, Nat.le_refl _, rfl, rfl, rfl, HU0.out⟩
  case round =>
    obtain ⟨k, L, a, n, cap, rfl, hk, hLk, rfl, hn, hL, hU⟩ := hrel
    rw [HL.out] at hk
    have HN := Lib.hid hn
    clear hn
    have HU := Lib.hid hU
    have HLL := Lib.hid hL
    clear hU hL
    by_cases hlt : k < s.size
    · obtain rfl := HN.out
      have hki : (k : Int) < (s.size : Int) := by omega
      obtain ⟨r, st, hr⟩ : ∃ r st, tk s.data.toList k = (r, st) := ⟨_, _, rfl⟩
      have htk := take_any s k
      rw [hr] at htk
      have HT := Lib.hid htk
      have hk2 : k < s.data.toList.length := by rw [HL.out]; exact hlt
      have ht : k < r.t := by
        have := tk_t s.data.toList k
        rw [hr] at this
        exact this.1
      have HR := Lib.hid hr
      clear htk hr
      cases st with
      | true =>
        go_wp2_with (first
          | (go_at_call 138; (with_reducible refine (HT.out _ hs hlt).mono ?_); rintro e w1 ⟨rfl, b1⟩; have U1 := Lib.hid (HU.out.over b1); clear b1)
          | (at_builtin; refine wpList_append_ex rfl (.tmp 24) (.tmp 26) 179 rfl _ (app_keep Tryz.underlying179 hi hz0 hz1 hz2 rfl (by decide) (by decide) U1.out (src_three2 _ _ _ _ _ _) three_one (by omega)) ?_; rintro v2 w2 ⟨hu2, hp2⟩; obtain ⟨a2, cap2, rfl, -, -, -⟩ := row_form hu2.1; have U2 := Lib.hid (CRow.push r hu2 rfl rfl rfl); have e2 := heap_cells hp2; clear hu2 hp2))
        go_roundw
        case rel => exact crel_in hk2 hLk HR.out HLL.out U2.out
        case measure => simp [intOf]; omega
      | false =>
        go_wp2_with (go_at_call 138; (with_reducible refine (HT.out _ hs hlt).mono ?_); rintro e w1 ⟨rfl, b1⟩; have U1 := Lib.hid (HU.out.over b1); clear b1)
        go_roundw
        case rel => exact crel_out hk2 hLk HR.out HLL.out (U1.out.alloc _)
        case measure => simp [intOf]; omega
    · have hki : ¬ (k : Int) < (s.size : Int) := by omega
      have hLC : L = C := by
        have h3 := HLL.out
        rw [chs_end (by rw [HL.out]; omega), List.append_nil, HCC.out] at h3
        exact h3
      subst hLC
      have hu := HU.out
      have hn := HN.out
      obtain ⟨a', c', hv, hc1, hc2, hcell⟩ := crow_cells hu
      simp only [Value.slice.injEq] at hv
      obtain ⟨rfl, -, rfl⟩ := hv
      have HC := Lib.hid hcell
      have hu' : Up w 199 3 (.slice a n cap) n (rcells L) wr := by
        unfold CRow at hu
        rw [← hn] at hu
        exact hu
      have U2 := Lib.hid hu'
      unfold maxLen at hc2
      rw [← hn] at hc1 hcl
      clear hn hu hu' hcell
      cases n with
      | zero =>
        obtain rfl : L = [] := List.eq_nil_of_length_eq_zero HN.out.symm
        go_wp2_with (at_builtin; refine wpList_append_ex rfl (.tmp 43) (.tmp 49) 179 rfl _ (app_up Tryz.underlying179 hi hz0 hz1 hz2 rfl (by decide) (by decide) (U2.out.alloc _) (src_three _ _ _ _ _) three_one (by omega)) ?_; intro v3 w3 hu3; simp only [Nat.zero_add] at hu3; obtain ⟨a3, cap3, rfl, -, -, -⟩ := row_form hu3.1; have U3 := Lib.hid hu3; clear hu3)
        go_ret
        refine ⟨a3, 1, cap3, ?_, rfl, ?_⟩ <;> rw [charsL_not (list_ne h0) (by rw [HCC.out]; rfl), HCC.out, HL.out]
        · rfl
        · exact U3.out
      | succ m =>
        have hm : m < L.length := by have := HN.out; omega
        obtain ⟨r, hr⟩ : ∃ r, L[m]? = some r := ⟨_, List.getElem?_eq_getElem hm⟩
        obtain ⟨g, rfl, hg, e0, -, -⟩ := HC.out m r hr
        have HE := Lib.hid (endsNl_last HN.out.symm hr)
        obtain ⟨x, hx⟩ : ∃ x : Int, ((r.c.toNat : Nat) : Int) = x := ⟨_, rfl⟩
        rw [hx] at e0
        have HX := Lib.hid hx
        have hm0 : ((m : Int) + 1 == 0) = false := by simp; omega
        clear hr hx hm
        by_cases hq : x = 10
        · subst hq
          have hc : r.c = 10 := c_of (x := 10) HX.out (by omega)
          have HR := Lib.hid hc
          clear hc
          go_wp2
          go_ret
          refine ⟨some ⟨g, 0, none⟩, m + 1, cap, ?_, rfl, ?_⟩ <;> rw [charsL_ends (list_ne h0) (by rw [HCC.out, HE.out, HR.out]; rfl), HCC.out]
          · exact HN.out
          · have h := U2.out
            unfold CRow
            rw [← HN.out]
            exact h
        · have hb : (x == 10) = false := by simpa using hq
          have hb2 : (x != 10) = true := by simpa using hq
          have hc : decide (r.c = 10) = false := by
            rw [decide_eq_false_iff_not]
            intro e
            apply hq
            rw [← HX.out, e]
            rfl
          have HR := Lib.hid hc
          clear hc
          go_wp2_with (at_builtin; refine wpList_append_ex rfl (.tmp 43) (.tmp 49) 179 rfl _ (app_up Tryz.underlying179 hi hz0 hz1 hz2 rfl (by decide) (by decide) (U2.out.alloc _) (src_three _ _ _ _ _) three_one (by omega)) ?_; intro v3 w3 hu3; obtain ⟨a3, cap3, rfl, -, -, -⟩ := row_form hu3.1; have U3 := Lib.hid hu3; clear hu3)
          go_ret
          refine ⟨a3, m + 1 + 1, cap3, ?_, rfl, ?_⟩ <;> rw [charsL_not (list_ne h0) (by rw [HCC.out, HE.out, HR.out]), HCC.out, HL.out]
          · rw [List.length_append, ← HN.out]
            rfl
          · have h := U3.out
            rw [rcells_push (x := 10) (y := (s.size : Int)) (z := (s.size : Int)) (r := ⟨10, s.size, s.size⟩) rfl rfl rfl] at h
            unfold CRow
            rw [List.length_append, ← HN.out]
            exact h

theorem chars_any (s : ByteArray) (w : World) (hs : s.size ≤ 100000) : Calls Tryz.prog 125 #[.string s] w (CRowPost w (charsL s.data.toList)) := by
  by_cases h0 : 0 < s.size
  · exact chars_some s w hs h0
  · have hne := empty_yes h0
    have hl := list_nil h0
    have HCL := Lib.hid (show charsL s.data.toList = [] from by unfold charsL; rw [if_pos hl])
    clear hl
    go_enter Tryz.func125, Tryz.ntmps125
    go_wp2
    go_ret
    rw [HCL.out]
    exact ⟨none, 0, 0, rfl, rfl, up_nil _ _ _⟩

end Go.Proofs.YtpnboieppkjfnaaGreat
