/-
  take of the project, walked: the character at a place, and whether it stands.
-/
import Derived.Test.YtpnboieppkjfnaaTri
namespace Go.Proofs.Ytpnboieppkjfnaa
open Go.RowKit

def TakeIs (r : Rn) (st : Bool) (W : World) (e : Ending) (w' : World) : Prop :=
  e = .returned (.tuple #[.agg #[.int .u8 (r.c.toNat : Int), .int .i64 (r.f : Int), .int .i64 (r.t : Int)], .bool st]) ∧ Below W.heap.size W w'

theorem tk_out {l : List UInt8} {k : Nat} {r : Rn} (h : one l k = r) (h1 : r.c = 92) (h2 : r.t < l.length) (h3 : l.getD r.t 0 = 10) : tk l k = (⟨r.c, r.f, r.t + 1⟩, false) := by
  have hf := one_f l k
  unfold tk
  rw [if_pos]
  · rw [h] at hf ⊢
    rw [hf]
  · unfold spl
    rw [h, decide_eq_true h1, decide_eq_true h2, decide_eq_true h3]
    rfl
theorem tk_in {l : List UInt8} {k : Nat} {r : Rn} (h : one l k = r) (h1 : ¬ (r.c = 92 ∧ r.t < l.length ∧ l.getD r.t 0 = 10)) : tk l k = (r, true) := by
  unfold tk
  rw [if_neg, h]
  rw [h]
  intro hs
  exact h1 (spl_true hs)

theorem take_done {l : List UInt8} {k : Nat} {r : Rn} {st : Bool} {W w' : World} {x y z : Int} (h : tk l k = (r, st)) (hx : x = (r.c.toNat : Int)) (hy : y = (r.f : Int)) (hz : z = (r.t : Int)) (hb : Below W.heap.size W w') :
    TakeIs (tk l k).1 (tk l k).2 W (.returned (.tuple #[.agg #[.int .u8 x, .int .i64 y, .int .i64 z], .bool st])) w' := by
  rw [h, hx, hy, hz]
  exact ⟨rfl, hb⟩

theorem below_two (w : World) (o p : Obj) : Below w.heap.size w ((w.alloc o).alloc p) := ((Below.refl _ _).alloc (Nat.le_refl _) _).alloc (by simp) _

theorem byte_eq {c : UInt8} {x : Nat} (h : c = UInt8.ofNat x) (hx : x < 256) : ((c.toNat : Nat) : Int) = (x : Int) := by
  rw [h]
  simp
  omega

/-- take, where the character is known: behind the call of trigraphAt. -/
theorem one_of_some {l : List UInt8} {k : Nat} {d : UInt8} (h : triAt l k = some d) : one l k = ⟨d, k, k + 3⟩ := by unfold one; rw [h]
theorem one_of_none {l : List UInt8} {k : Nat} (h : triAt l k = none) : one l k = ⟨l.getD k 0, k, k + 1⟩ := by unfold one; rw [h]

set_option maxRecDepth 100000 in
set_option maxHeartbeats 1600000 in
theorem take_some (s : ByteArray) (k : Nat) (d : UInt8) (w : World) (hs : s.size ≤ 100000) (hd : triAt s.data.toList k = some d) :
    Calls Try.prog 53 #[.string s, .int .i64 (k : Int)] w (TakeIs (tk s.data.toList k).1 (tk s.data.toList k).2 w) := by
  have hk : k + 2 < s.size := by have := (triAt_some hd).1; rw [len_byte] at this; exact this
  have ho := one_of_some hd
  have hl := len_byte s
  have hat : ∀ W : World, Calls Try.prog 61 #[.string s, .int .i64 (k : Int)] W fun e w' => e = .returned (.tuple #[.int .u8 (d.toNat : Int), .bool true]) ∧ W = w' := by
    intro W
    refine (triAt_any s k W (by omega) hs).mono ?_
    rintro e w' ⟨rfl, rfl⟩
    rw [hd]
    exact ⟨rfl, rfl⟩
  have HAT := Lib.hid hat
  have HO := Lib.hid ho
  have HL := Lib.hid hl
  obtain ⟨x, hx⟩ : ∃ x : Int, ((d.toNat : Nat) : Int) = x := ⟨_, rfl⟩
  have HX := Lib.hid hx
  rw [hx] at HAT
  clear hat ho hl hx hd
  by_cases hq : x = 92
  · subst hq
    have hc : d = 92 := c_of (x := 92) HX.out (by omega)
    by_cases h3 : k + 3 < s.size
    · by_cases hy : s[k + 3] = 10
      · have HT := Lib.hid (tk_out HO.out hc (by rw [HL.out]; exact h3) (by rw [get_byte s (k + 3) h3]; exact hy))
        have ey : (((s[k + 3].toNat : Nat) : Int) == 10) = true := by rw [hy]; rfl
        clear hy hc
        go_enter Try.func53, Try.ntmps53
        go_wp2_with (go_at_call 61; (with_reducible refine (HAT.out _).mono ?_); rintro e w1 ⟨rfl, rfl⟩)
        exact bodyPost_ret (v := .tuple #[.agg #[.int .u8 92, .int .i64 (k : Int), .int .i64 ((k : Int) + 3 + 1)], .bool false]) (by simp [results, Try.results53, go_sem]) rfl (take_done HT.out (by first | rfl | exact HX.out.symm) (by simp) (by simp) (below_two _ _ _))
      · have HT := Lib.hid (tk_in HO.out fun h => hy (by have := h.2.2; rw [get_byte s (k + 3) h3] at this; exact this))
        have ey : (((s[k + 3].toNat : Nat) : Int) == 10) = false := by simpa using byte_is (x := 10) (by omega) hy
        clear hy hc
        go_enter Try.func53, Try.ntmps53
        go_wp2_with (go_at_call 61; (with_reducible refine (HAT.out _).mono ?_); rintro e w1 ⟨rfl, rfl⟩)
        exact bodyPost_ret (v := .tuple #[.agg #[.int .u8 92, .int .i64 (k : Int), .int .i64 ((k : Int) + 3)], .bool true]) (by simp [results, Try.results53, go_sem]) rfl (take_done HT.out (by first | rfl | exact HX.out.symm) (by simp) (by simp) (below_two _ _ _))
    · have HT := Lib.hid (tk_in HO.out fun h => h3 (by have := h.2.1; rw [HL.out] at this; exact this))
      have h3i : ¬ (k : Int) + 3 < (s.size : Int) := by omega
      clear hc
      go_enter Try.func53, Try.ntmps53
      go_wp2_with (go_at_call 61; (with_reducible refine (HAT.out _).mono ?_); rintro e w1 ⟨rfl, rfl⟩)
      exact bodyPost_ret (v := .tuple #[.agg #[.int .u8 92, .int .i64 (k : Int), .int .i64 ((k : Int) + 3)], .bool true]) (by simp [results, Try.results53, go_sem]) rfl (take_done HT.out (by first | rfl | exact HX.out.symm) (by simp) (by simp) (below_two _ _ _))
  · have hb : (x == 92) = false := by simpa using hq
    have HT := Lib.hid (tk_in HO.out fun h => hq (by have e : d = 92 := h.1; rw [← HX.out, e]; rfl))
    go_enter Try.func53, Try.ntmps53
    go_wp2_with (go_at_call 61; (with_reducible refine (HAT.out _).mono ?_); rintro e w1 ⟨rfl, rfl⟩)
    exact bodyPost_ret (v := .tuple #[.agg #[.int .u8 x, .int .i64 (k : Int), .int .i64 ((k : Int) + 3)], .bool true]) (by simp [results, Try.results53, go_sem]) rfl (take_done HT.out (by first | rfl | exact HX.out.symm) (by simp) (by simp) (below_two _ _ _))

set_option maxRecDepth 100000 in
set_option maxHeartbeats 1600000 in
theorem take_none (s : ByteArray) (k : Nat) (w : World) (hs : s.size ≤ 100000) (hk : k < s.size) (hd : triAt s.data.toList k = none) :
    Calls Try.prog 53 #[.string s, .int .i64 (k : Int)] w (TakeIs (tk s.data.toList k).1 (tk s.data.toList k).2 w) := by
  have ho := one_of_none hd
  rw [get_byte s k hk] at ho
  have hl := len_byte s
  have hat : ∀ W : World, Calls Try.prog 61 #[.string s, .int .i64 (k : Int)] W fun e w' => e = .returned (.tuple #[.int .u8 0, .bool false]) ∧ W = w' := by
    intro W
    refine (triAt_any s k W hk hs).mono ?_
    rintro e w' ⟨rfl, rfl⟩
    rw [hd]
    exact ⟨rfl, rfl⟩
  have HAT := Lib.hid hat
  have HO := Lib.hid ho
  have HL := Lib.hid hl
  obtain ⟨x, hx⟩ : ∃ x : Int, ((s[k].toNat : Nat) : Int) = x := ⟨_, rfl⟩
  have HX := Lib.hid hx
  clear hat ho hl hd
  by_cases hq : x = 92
  · subst hq
    have hc : s[k] = 92 := c_of (x := 92) HX.out (by omega)
    by_cases h3 : k + 1 < s.size
    · by_cases hy : s[k + 1] = 10
      · have HT := Lib.hid (tk_out HO.out hc (by rw [HL.out]; exact h3) (by rw [get_byte s (k + 1) h3]; exact hy))
        have ey : (((s[k + 1].toNat : Nat) : Int) == 10) = true := by rw [hy]; rfl
        clear hy hc
        go_enter Try.func53, Try.ntmps53
        go_wp2_with (go_at_call 61; (with_reducible refine (HAT.out _).mono ?_); rintro e w1 ⟨rfl, rfl⟩)
        exact bodyPost_ret (v := .tuple #[.agg #[.int .u8 92, .int .i64 (k : Int), .int .i64 ((k : Int) + 1 + 1)], .bool false]) (by simp [results, Try.results53, go_sem]) rfl (take_done HT.out (by first | rfl | exact HX.out.symm) (by simp) (by simp) (below_two _ _ _))
      · have HT := Lib.hid (tk_in HO.out fun h => hy (by have := h.2.2; rw [get_byte s (k + 1) h3] at this; exact this))
        have ey : (((s[k + 1].toNat : Nat) : Int) == 10) = false := by simpa using byte_is (x := 10) (by omega) hy
        clear hy hc
        go_enter Try.func53, Try.ntmps53
        go_wp2_with (go_at_call 61; (with_reducible refine (HAT.out _).mono ?_); rintro e w1 ⟨rfl, rfl⟩)
        exact bodyPost_ret (v := .tuple #[.agg #[.int .u8 92, .int .i64 (k : Int), .int .i64 ((k : Int) + 1)], .bool true]) (by simp [results, Try.results53, go_sem]) rfl (take_done HT.out (by first | rfl | exact HX.out.symm) (by simp) (by simp) (below_two _ _ _))
    · have HT := Lib.hid (tk_in HO.out fun h => h3 (by have := h.2.1; rw [HL.out] at this; exact this))
      have h3i : ¬ (k : Int) + 1 < (s.size : Int) := by omega
      clear hc
      go_enter Try.func53, Try.ntmps53
      go_wp2_with (go_at_call 61; (with_reducible refine (HAT.out _).mono ?_); rintro e w1 ⟨rfl, rfl⟩)
      exact bodyPost_ret (v := .tuple #[.agg #[.int .u8 92, .int .i64 (k : Int), .int .i64 ((k : Int) + 1)], .bool true]) (by simp [results, Try.results53, go_sem]) rfl (take_done HT.out (by first | rfl | exact HX.out.symm) (by simp) (by simp) (below_two _ _ _))
  · have hb : (x == 92) = false := by simpa using hq
    have HT := Lib.hid (tk_in HO.out fun h => hq (by have e : s[k] = 92 := h.1; rw [← HX.out, e]; rfl))
    go_enter Try.func53, Try.ntmps53
    go_wp2_with (go_at_call 61; (with_reducible refine (HAT.out _).mono ?_); rintro e w1 ⟨rfl, rfl⟩)
    exact bodyPost_ret (v := .tuple #[.agg #[.int .u8 x, .int .i64 (k : Int), .int .i64 ((k : Int) + 1)], .bool true]) (by simp [results, Try.results53, go_sem]) rfl (take_done HT.out (by first | rfl | exact HX.out.symm) (by simp) (by simp) (below_two _ _ _))

theorem take_any (s : ByteArray) (k : Nat) (w : World) (hs : s.size ≤ 100000) (hk : k < s.size) :
    Calls Try.prog 53 #[.string s, .int .i64 (k : Int)] w (TakeIs (tk s.data.toList k).1 (tk s.data.toList k).2 w) := by
  cases h : triAt s.data.toList k with
  | some d => exact take_some s k d w hs h
  | none => exact take_none s k w hs hk h

end Go.Proofs.Ytpnboieppkjfnaa
