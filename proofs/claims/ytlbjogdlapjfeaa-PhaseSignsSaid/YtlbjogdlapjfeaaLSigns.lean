/-
  PhaseSigns, walked.
-/
import Derived.Test.YtlbjogdlapjfeaaLOrder
import Derived.Test.YtlbjogdlapjfeaaSignsL
namespace Go.Proofs.Ytlbjogdlapjfeaa
open Go.RowKit

def NineRel (c : UInt8) (p i : Value) : Prop := ∃ (k : Nat) (b : Bool), i = .int .i64 (k : Int) ∧ k ≤ 9 ∧ p = .bool b ∧ nineB c k = b

theorem nine_go {c : UInt8} {k n : Nat} {b e : Bool} (hk : k < 9) (h : nineB c k = b) (he : ((n : Int) == (c.toNat : Int)) = e) (hn : (signL.getD k 0).toNat = n) {x : Int} (hx : x = ((k + 1 : Nat) : Int)) {q : Bool} (hq : (b || e) = q) : NineRel c (.bool q) (.int .i64 x) := by
  refine ⟨k + 1, q, by rw [hx], by omega, rfl, ?_⟩
  rw [nine_step c hk, h, ← hq, ← he, ← hn]
  congr 1
  rw [Bool.eq_iff_iff]
  simp only [decide_eq_true_eq, beq_iff_eq]
  constructor
  · intro h1
    rw [h1]
  · intro h1
    exact UInt8.toNat_inj.1 (by omega)
theorem nine_up {c : UInt8} {k : Nat} (hk : k < 9) (h : nineB c k = true) : NineRel c (.bool true) (.int .i64 ((k : Int) + 1)) :=
  ⟨k + 1, true, by go_num, by omega, rfl, by rw [nine_step c hk, h]; rfl⟩

theorem byte_row (w : World) (c : UInt8) : BRow w (.slice (some ⟨w.heap.size, 0, none⟩) 1 1) [c] (w.alloc (.cells #[.int .u8 (c.toNat : Int)] 5)) :=
  ⟨⟨rfl, .inr ⟨w.heap.size, 1, #[.int .u8 (c.toNat : Int)], rfl, Nat.le_refl _, heap_alloc_new _ _, Nat.le_refl _, by unfold maxLen; omega, rfl, rfl⟩⟩, (Below.refl _ _).alloc (Nat.le_refl _) _⟩

theorem byte_text (w : World) (c : UInt8) : (convert 36 9 (.slice (some ⟨w.heap.size, 0, none⟩) 1 1)).run Try.prog (w.alloc (.cells #[.int .u8 (c.toNat : Int)] 5)) = .ok (.string ⟨#[c]⟩) (w.alloc (.cells #[.int .u8 (c.toNat : Int)] 5)) :=
  brow_text (bs := [c]) (byte_row w c)

theorem tri_yes {c : UInt8} (h : isTri c = true) (w : World) : Calls Try.prog 8 #[.int .u8 (c.toNat : Int)] w (LitPost w (.tuple #[.int .u8 ((triB c).toNat : Int), .bool true])) := by
  refine (tri_any c w).mono ?_
  rintro e w' ⟨rfl, rfl⟩
  rw [h]
  exact ⟨rfl, rfl⟩
theorem tri_no {c : UInt8} (h : isTri c = false) (w : World) : Calls Try.prog 8 #[.int .u8 (c.toNat : Int)] w (LitPost w (.tuple #[.int .u8 0, .bool false])) := by
  have hb : triB c = 0 := by
    unfold isTri at h
    unfold triB
    cases ht : tri c with
    | none => rfl
    | some d => rw [ht] at h; cases h
  refine (tri_any c w).mono ?_
  rintro e w' ⟨rfl, rfl⟩
  rw [h, hb]
  exact ⟨rfl, rfl⟩

/-- What the law reads of four characters. -/
def Four (d : UInt8) (W : World) (e : Ending) (w' : World) : Prop :=
  ∃ g cap : Nat, e = .returned (.slice (some ⟨g, 0, none⟩) 4 cap) ∧ 4 ≤ cap ∧ cap ≤ 9223372036854775807 ∧ g < w'.heap.size ∧ Below W.heap.size W w' ∧ w'.cell? ⟨g, 3, none⟩ = some (.int .u8 (d.toNat : Int)) ∧ w'.cell? ⟨g, 4, none⟩ = some (.int .i64 1) ∧ w'.cell? ⟨g, 5, none⟩ = some (.int .i64 4)
def Six (W : World) (e : Ending) (w' : World) : Prop :=
  ∃ g cap : Nat, e = .returned (.slice (some ⟨g, 0, none⟩) 6 cap) ∧ 6 ≤ cap ∧ cap ≤ 9223372036854775807 ∧ g < w'.heap.size ∧ Below W.heap.size W w' ∧ w'.cell? ⟨g, 3, none⟩ = some (.int .u8 63)
def Three (z : Nat) (W : World) (e : Ending) (w' : World) : Prop :=
  ∃ g cap : Nat, e = .returned (.slice (some ⟨g, 0, none⟩) 3 cap) ∧ 3 ≤ cap ∧ cap ≤ 9223372036854775807 ∧ g < w'.heap.size ∧ Below W.heap.size W w' ∧ w'.cell? ⟨g, 0, none⟩ = some (.int .u8 97) ∧
    w'.cell? ⟨g, 3, none⟩ = some (.int .u8 98) ∧ w'.cell? ⟨g, 4, none⟩ = some (.int .i64 (z : Int)) ∧ w'.cell? ⟨g, 5, none⟩ = some (.int .i64 ((z : Int) + 1)) ∧ w'.cell? ⟨g, 6, none⟩ = some (.int .u8 10)

theorem crow_at {W : World} {v : Value} {L : List Rn} {w : World} (h : CRow W v L w) (h0 : 0 < L.length) : ∃ g cap : Nat, v = .slice (some ⟨g, 0, none⟩) L.length cap ∧ L.length ≤ cap ∧ cap ≤ 9223372036854775807 ∧ g < w.heap.size ∧ Below W.heap.size W w ∧
    ∀ i r, L[i]? = some r → w.cell? ⟨g, i * 3, none⟩ = some (.int .u8 (r.c.toNat : Int)) ∧ w.cell? ⟨g, i * 3 + 1, none⟩ = some (.int .i64 (r.f : Int)) ∧ w.cell? ⟨g, i * 3 + 2, none⟩ = some (.int .i64 (r.t : Int)) := by
  obtain ⟨a, cap, hv, h1, h2, h3⟩ := crow_cells h
  obtain ⟨g, rfl, hg, -⟩ := h3 0 _ (List.getElem?_eq_getElem h0)
  refine ⟨g, cap, hv, h1, by unfold maxLen at h2; omega, hg, h.2, fun i r hr => ?_⟩
  obtain ⟨g', hg', -, hc⟩ := h3 i r hr
  simp only [Option.some.injEq, Addr.mk.injEq, and_true] at hg'
  subst hg'
  exact hc

theorem sign_bytes (c : UInt8) : ((⟨#[120, 63, 63]⟩ : ByteArray) ++ ⟨#[c]⟩ ++ ⟨#[121]⟩).data.toList = signText c := by
  simp [signText]

theorem chars_four {c : UInt8} (h : isTri c = true) (w : World) : Calls Try.prog 11 #[.string (⟨#[120, 63, 63]⟩ ++ ⟨#[c]⟩ ++ ⟨#[121]⟩)] w (Four (triB c) w) := by
  refine (chars_any _ w (by simp [ByteArray.size])).mono ?_
  rintro e w1 ⟨a, n, cap, hn, rfl, hu⟩
  rw [sign_bytes, signs_tri h] at hu hn
  obtain ⟨g, cap', hv, h1, h2, hg, hb, hc⟩ := crow_at hu (by simp)
  simp only [Value.slice.injEq] at hv
  obtain ⟨rfl, rfl, rfl⟩ := hv
  exact ⟨g, cap, rfl, h1, h2, hg, hb, (hc 1 _ rfl).1, (hc 1 _ rfl).2.1, (hc 1 _ rfl).2.2⟩
theorem chars_six {c : UInt8} (h : isTri c = false) (w : World) : Calls Try.prog 11 #[.string (⟨#[120, 63, 63]⟩ ++ ⟨#[c]⟩ ++ ⟨#[121]⟩)] w (Six w) := by
  refine (chars_any _ w (by simp [ByteArray.size])).mono ?_
  rintro e w1 ⟨a, n, cap, hn, rfl, hu⟩
  obtain ⟨L, hL, hL6, hL1⟩ := signs_none h
  rw [sign_bytes, hL] at hu hn
  obtain ⟨g, cap', hv, h1, h2, hg, hb, hc⟩ := crow_at hu (by omega)
  simp only [Value.slice.injEq] at hv
  obtain ⟨rfl, -, rfl⟩ := hv
  rw [hL6] at hn h1
  subst hn
  exact ⟨g, cap, rfl, h1, h2, hg, hb, (hc 1 _ hL1).1⟩
theorem chars_three {m : List UInt8} (hm : Splices m) (h0 : 0 < m.length) {N : Nat} {z : ByteArray} (hz : z.data.toList = 97 :: marks m N) (hs : z.size ≤ 1000) (w : World) : Calls Try.prog 11 #[.string (z ++ ⟨#[98]⟩)] w (Three z.size w) := by
  have hl : z.size = N * m.length + 1 := by rw [← len_byte, hz, List.length_cons, marks_len]
  refine (chars_any _ w (by rw [ByteArray.size_append]; show z.size + 1 ≤ _; omega)).mono ?_
  rintro e w1 ⟨a, n, cap, hn, rfl, hu⟩
  have hz2 : (z ++ ⟨#[98]⟩).data.toList = (97 :: marks m N) ++ [98] := by simp [hz]
  rw [hz2, chars_marks hm h0] at hu hn
  obtain ⟨g, cap', hv, h1, h2, hg, hb, hc⟩ := crow_at hu (by simp)
  simp only [Value.slice.injEq] at hv
  obtain ⟨rfl, rfl, rfl⟩ := hv
  refine ⟨g, cap, rfl, h1, h2, hg, hb, (hc 0 _ rfl).1, (hc 1 _ rfl).1, ?_, ?_, (hc 2 _ rfl).1⟩
  · rw [hl]
    exact (hc 1 _ rfl).2.1
  · rw [hl]
    exact (hc 1 _ rfl).2.2

def MarkRel (m : List UInt8) (N : Nat) (s i : Value) : Prop := ∃ (k : Nat) (z : ByteArray), i = .int .i64 (k : Int) ∧ k ≤ N ∧ s = .string z ∧ z.data.toList = 97 :: marks m k

theorem mark_go {m : List UInt8} {N k : Nat} {z y : ByteArray} (hk : k < N) (hz : z.data.toList = 97 :: marks m k) (hy : y.data.toList = m) : MarkRel m N (.string (z ++ y)) (.int .i64 ((k : Int) + 1)) :=
  ⟨k + 1, z ++ y, by go_num, hk, rfl, by simp [hz, hy, marks]⟩

theorem mark_size {m : List UInt8} {k : Nat} {z : ByteArray} (hz : z.data.toList = 97 :: marks m k) : z.size = k * m.length + 1 := by
  rw [← len_byte, hz, List.length_cons, marks_len]

set_option maxRecDepth 100000 in
set_option maxHeartbeats 1600000 in
theorem law_signs_true (c : UInt8) (N : Nat) (hN : N ≤ 100) (t : Bool) (w : World) (hT : isTri c = true) : Calls Try.prog 6 #[.int .u8 (c.toNat : Int), .int .i64 (N : Int), .bool t] w (AwakePost w) := by
  have h1 : (0 : Int) ≤ (N : Int) := by omega
  have h2 : (N : Int) ≤ 100 := by omega
  have ht := byte_text w c
  have HC1 := Lib.hid (chars_four hT)
  have HT1 := Lib.hid (tri_yes hT)
  have HT := Lib.hid hT
  clear hT
  go_enter Try.func6, Try.ntmps6
  go_wp2_with (first
    | (go_at_call 11; (with_reducible refine (HC1.out _).mono ?_); rintro e w1 ⟨g1, cap1, rfl, c1, c2, hg1, b1, f3, f4, f5⟩; have B1 := Lib.hid (((Below.refl _ _).alloc (Nat.le_refl _) _).trans (b1.mono (by simp))); clear b1)
    | (go_at_call 8; (with_reducible refine (HT1.out _).mono ?_); rintro e w2 ⟨rfl, rfl⟩))
  go_loop [10, 11] (fun p i => NineRel c p i) (fun _ i => 9 - (intOf i).toNat)
  case atStart => exact ⟨0, false, rfl, by omega, rfl, rfl⟩
  case round =>
    obtain ⟨k, b, rfl, hk, rfl, hb⟩ := hrel
    have HB := Lib.hid hb
    clear hb
    by_cases hlt : k < 9
    · have hki : (k : Int) < 9 := by omega
      cases b with
      | true =>
        go_wp2
        go_round
        case rel => exact nine_up hlt HB.out
        case measure => simp [intOf]; omega
      | false =>
        obtain rfl | rfl | rfl | rfl | rfl | rfl | rfl | rfl | rfl : k = 0 ∨ k = 1 ∨ k = 2 ∨ k = 3 ∨ k = 4 ∨ k = 5 ∨ k = 6 ∨ k = 7 ∨ k = 8 := by omega
        · go_wp2
          go_round
          case rel => exact nine_go (k := 0) (n := 61) (by omega) HB.out rfl rfl rfl rfl
          case measure => decide
        · go_wp2
          go_round
          case rel => exact nine_go (k := 1) (n := 47) (by omega) HB.out rfl rfl rfl rfl
          case measure => decide
        · go_wp2
          go_round
          case rel => exact nine_go (k := 2) (n := 39) (by omega) HB.out rfl rfl rfl rfl
          case measure => decide
        · go_wp2
          go_round
          case rel => exact nine_go (k := 3) (n := 40) (by omega) HB.out rfl rfl rfl rfl
          case measure => decide
        · go_wp2
          go_round
          case rel => exact nine_go (k := 4) (n := 41) (by omega) HB.out rfl rfl rfl rfl
          case measure => decide
        · go_wp2
          go_round
          case rel => exact nine_go (k := 5) (n := 33) (by omega) HB.out rfl rfl rfl rfl
          case measure => decide
        · go_wp2
          go_round
          case rel => exact nine_go (k := 6) (n := 60) (by omega) HB.out rfl rfl rfl rfl
          case measure => decide
        · go_wp2
          go_round
          case rel => exact nine_go (k := 7) (n := 62) (by omega) HB.out rfl rfl rfl rfl
          case measure => decide
        · go_wp2
          go_round
          case rel => exact nine_go (k := 8) (n := 45) (by omega) HB.out rfl rfl rfl rfl
          case measure => decide
    · obtain rfl : k = 9 := by omega
      obtain rfl : b = true := by rw [← HB.out, nine_all, HT.out]
      clear hlt hk
      cases t with
      | true =>
        go_wp2
        go_loop [13, 14] (fun s i => MarkRel [63, 63, 47, 10] N s i) (fun _ i => N - (intOf i).toNat)
        case atStart => exact ⟨0, _, rfl, Nat.zero_le _, rfl, rfl⟩
        case round =>
          obtain ⟨k, z, rfl, hk, rfl, hz⟩ := hrel
          have hzs := mark_size hz
          have hzb : z.size ≤ 500 := by
            rw [hzs]
            show k * 4 + 1 ≤ 500
            omega
          have HZ := Lib.hid hz
          clear hz hzs
          by_cases hlt : k < N
          · have hki : (k : Int) < (N : Int) := by omega
            go_wp2
            go_round
            case rel => exact mark_go hlt HZ.out rfl
            case measure => simp [intOf]; omega
          · have hki : ¬ (k : Int) < (N : Int) := by omega
            obtain rfl : k = N := by omega
            have HC := Lib.hid (chars_three splices_tri (by decide) HZ.out (by omega))
            go_wp2_with (first
              | (go_at_call 11; (with_reducible refine (HC.out _).mono ?_); rintro e w2 ⟨g2, cap2, rfl, c1, c2, hg2, b2, f0, f3, f4, f5, f6⟩; have B2 := Lib.hid (B1.out.trans (b2.mono B1.out.size)); clear b2)
              | (go_at_call 7; (with_reducible refine (awake_any _).mono ?_); rintro e w6 ⟨rfl, b6⟩))
            go_ret
            exact ⟨rfl, B2.out.trans (b6.mono B2.out.size)⟩
      | false =>
        go_wp2
        go_loop [13, 14] (fun s i => MarkRel [92, 10] N s i) (fun _ i => N - (intOf i).toNat)
        case atStart => exact ⟨0, _, rfl, Nat.zero_le _, rfl, rfl⟩
        case round =>
          obtain ⟨k, z, rfl, hk, rfl, hz⟩ := hrel
          have hzs := mark_size hz
          have hzb : z.size ≤ 500 := by
            rw [hzs]
            show k * 2 + 1 ≤ 500
            omega
          have HZ := Lib.hid hz
          clear hz hzs
          by_cases hlt : k < N
          · have hki : (k : Int) < (N : Int) := by omega
            go_wp2
            go_round
            case rel => exact mark_go hlt HZ.out rfl
            case measure => simp [intOf]; omega
          · have hki : ¬ (k : Int) < (N : Int) := by omega
            obtain rfl : k = N := by omega
            have HC := Lib.hid (chars_three splices_back (by decide) HZ.out (by omega))
            go_wp2_with (first
              | (go_at_call 11; (with_reducible refine (HC.out _).mono ?_); rintro e w2 ⟨g2, cap2, rfl, c1, c2, hg2, b2, f0, f3, f4, f5, f6⟩; have B2 := Lib.hid (B1.out.trans (b2.mono B1.out.size)); clear b2)
              | (go_at_call 7; (with_reducible refine (awake_any _).mono ?_); rintro e w6 ⟨rfl, b6⟩))
            go_ret
            exact ⟨rfl, B2.out.trans (b6.mono B2.out.size)⟩

set_option maxRecDepth 100000 in
set_option maxHeartbeats 1600000 in
theorem law_signs_false (c : UInt8) (N : Nat) (hN : N ≤ 100) (t : Bool) (w : World) (hT : isTri c = false) : Calls Try.prog 6 #[.int .u8 (c.toNat : Int), .int .i64 (N : Int), .bool t] w (AwakePost w) := by
  have h1 : (0 : Int) ≤ (N : Int) := by omega
  have h2 : (N : Int) ≤ 100 := by omega
  have ht := byte_text w c
  have HC1 := Lib.hid (chars_six hT)
  have HT1 := Lib.hid (tri_no hT)
  have HT := Lib.hid hT
  clear hT
  go_enter Try.func6, Try.ntmps6
  go_wp2_with (first
    | (go_at_call 11; (with_reducible refine (HC1.out _).mono ?_); rintro e w1 ⟨g1, cap1, rfl, c1, c2, hg1, b1, f3⟩; have B1 := Lib.hid (((Below.refl _ _).alloc (Nat.le_refl _) _).trans (b1.mono (by simp))); clear b1)
    | (go_at_call 8; (with_reducible refine (HT1.out _).mono ?_); rintro e w2 ⟨rfl, rfl⟩))
  go_loop [10, 11] (fun p i => NineRel c p i) (fun _ i => 9 - (intOf i).toNat)
  case atStart => exact ⟨0, false, rfl, by omega, rfl, rfl⟩
  case round =>
    obtain ⟨k, b, rfl, hk, rfl, hb⟩ := hrel
    have HB := Lib.hid hb
    clear hb
    by_cases hlt : k < 9
    · have hki : (k : Int) < 9 := by omega
      cases b with
      | true =>
        go_wp2
        go_round
        case rel => exact nine_up hlt HB.out
        case measure => simp [intOf]; omega
      | false =>
        obtain rfl | rfl | rfl | rfl | rfl | rfl | rfl | rfl | rfl : k = 0 ∨ k = 1 ∨ k = 2 ∨ k = 3 ∨ k = 4 ∨ k = 5 ∨ k = 6 ∨ k = 7 ∨ k = 8 := by omega
        · go_wp2
          go_round
          case rel => exact nine_go (k := 0) (n := 61) (by omega) HB.out rfl rfl rfl rfl
          case measure => decide
        · go_wp2
          go_round
          case rel => exact nine_go (k := 1) (n := 47) (by omega) HB.out rfl rfl rfl rfl
          case measure => decide
        · go_wp2
          go_round
          case rel => exact nine_go (k := 2) (n := 39) (by omega) HB.out rfl rfl rfl rfl
          case measure => decide
        · go_wp2
          go_round
          case rel => exact nine_go (k := 3) (n := 40) (by omega) HB.out rfl rfl rfl rfl
          case measure => decide
        · go_wp2
          go_round
          case rel => exact nine_go (k := 4) (n := 41) (by omega) HB.out rfl rfl rfl rfl
          case measure => decide
        · go_wp2
          go_round
          case rel => exact nine_go (k := 5) (n := 33) (by omega) HB.out rfl rfl rfl rfl
          case measure => decide
        · go_wp2
          go_round
          case rel => exact nine_go (k := 6) (n := 60) (by omega) HB.out rfl rfl rfl rfl
          case measure => decide
        · go_wp2
          go_round
          case rel => exact nine_go (k := 7) (n := 62) (by omega) HB.out rfl rfl rfl rfl
          case measure => decide
        · go_wp2
          go_round
          case rel => exact nine_go (k := 8) (n := 45) (by omega) HB.out rfl rfl rfl rfl
          case measure => decide
    · obtain rfl : k = 9 := by omega
      obtain rfl : b = false := by rw [← HB.out, nine_all, HT.out]
      clear hlt hk
      cases t with
      | true =>
        go_wp2
        go_loop [13, 14] (fun s i => MarkRel [63, 63, 47, 10] N s i) (fun _ i => N - (intOf i).toNat)
        case atStart => exact ⟨0, _, rfl, Nat.zero_le _, rfl, rfl⟩
        case round =>
          obtain ⟨k, z, rfl, hk, rfl, hz⟩ := hrel
          have hzs := mark_size hz
          have hzb : z.size ≤ 500 := by
            rw [hzs]
            show k * 4 + 1 ≤ 500
            omega
          have HZ := Lib.hid hz
          clear hz hzs
          by_cases hlt : k < N
          · have hki : (k : Int) < (N : Int) := by omega
            go_wp2
            go_round
            case rel => exact mark_go hlt HZ.out rfl
            case measure => simp [intOf]; omega
          · have hki : ¬ (k : Int) < (N : Int) := by omega
            obtain rfl : k = N := by omega
            have HC := Lib.hid (chars_three splices_tri (by decide) HZ.out (by omega))
            go_wp2_with (first
              | (go_at_call 11; (with_reducible refine (HC.out _).mono ?_); rintro e w2 ⟨g2, cap2, rfl, c1, c2, hg2, b2, f0, f3, f4, f5, f6⟩; have B2 := Lib.hid (B1.out.trans (b2.mono B1.out.size)); clear b2)
              | (go_at_call 7; (with_reducible refine (awake_any _).mono ?_); rintro e w6 ⟨rfl, b6⟩))
            go_ret
            exact ⟨rfl, B2.out.trans (b6.mono B2.out.size)⟩
      | false =>
        go_wp2
        go_loop [13, 14] (fun s i => MarkRel [92, 10] N s i) (fun _ i => N - (intOf i).toNat)
        case atStart => exact ⟨0, _, rfl, Nat.zero_le _, rfl, rfl⟩
        case round =>
          obtain ⟨k, z, rfl, hk, rfl, hz⟩ := hrel
          have hzs := mark_size hz
          have hzb : z.size ≤ 500 := by
            rw [hzs]
            show k * 2 + 1 ≤ 500
            omega
          have HZ := Lib.hid hz
          clear hz hzs
          by_cases hlt : k < N
          · have hki : (k : Int) < (N : Int) := by omega
            go_wp2
            go_round
            case rel => exact mark_go hlt HZ.out rfl
            case measure => simp [intOf]; omega
          · have hki : ¬ (k : Int) < (N : Int) := by omega
            obtain rfl : k = N := by omega
            have HC := Lib.hid (chars_three splices_back (by decide) HZ.out (by omega))
            go_wp2_with (first
              | (go_at_call 11; (with_reducible refine (HC.out _).mono ?_); rintro e w2 ⟨g2, cap2, rfl, c1, c2, hg2, b2, f0, f3, f4, f5, f6⟩; have B2 := Lib.hid (B1.out.trans (b2.mono B1.out.size)); clear b2)
              | (go_at_call 7; (with_reducible refine (awake_any _).mono ?_); rintro e w6 ⟨rfl, b6⟩))
            go_ret
            exact ⟨rfl, B2.out.trans (b6.mono B2.out.size)⟩

set_option maxRecDepth 100000 in
set_option maxHeartbeats 1600000 in
theorem law_signs (c : UInt8) (n : Int) (t : Bool) (w : World) : Calls Try.prog 6 #[.int .u8 (c.toNat : Int), .int .i64 n, .bool t] w (AwakePost w) := by
  by_cases hn : n < 0
  · go_enter Try.func6, Try.ntmps6
    go_wp2_with (go_at_call 7; (with_reducible refine (awake_any _).mono ?_); rintro e w6 ⟨rfl, b6⟩)
    go_ret
    exact ⟨rfl, b6⟩
  by_cases hn2 : 100 < n
  · go_enter Try.func6, Try.ntmps6
    go_wp2_with (go_at_call 7; (with_reducible refine (awake_any _).mono ?_); rintro e w6 ⟨rfl, b6⟩)
    go_ret
    exact ⟨rfl, b6⟩
  · obtain ⟨N, rfl⟩ := Int.eq_ofNat_of_zero_le (show 0 ≤ n by omega)
    cases hT : isTri c with
    | true => exact law_signs_true c N (by omega) t w hT
    | false => exact law_signs_false c N (by omega) t w hT

end Go.Proofs.Ytlbjogdlapjfeaa
