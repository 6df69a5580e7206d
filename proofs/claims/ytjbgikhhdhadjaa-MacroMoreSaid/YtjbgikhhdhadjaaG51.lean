/-
  Texts of the proof, put together: LMMore.
-/
import Derived.Test.YtjbgikhhdhadjaaG49
import Derived.Test.YtjbgikhhdhadjaaG50

/-
  Dots stand for all that is behind: the law, walked.
-/
namespace Go.Proofs.Ytjbgikhhdhadjaa
open Go.RowKit Go.Maps

theorem pref_len : ∀ n, (pref n).length = 4 * n
  | 0 => rfl
  | n + 1 => by
    show (pref n ++ [112, 97 + UInt8.ofNat n, 44, 32]).length = _
    rw [List.length_append, pref_len n]
    simp
    omega
theorem baT_size (l : List UInt8) : (baT l).size = l.length := by simp [baT, ByteArray.size]
theorem baT_app (a b : List UInt8) : baT a ++ baT b = baT (a ++ b) := by
  apply ByteArray.ext
  simp [baT]
theorem pref_step (j : Nat) : baT (pref j) ++ ⟨#[112]⟩ ++ ⟨#[97 + UInt8.ofNat j]⟩ ++ ⟨#[44, 32]⟩ = baT (pref (j + 1)) := by
  rw [show (⟨#[112]⟩ : ByteArray) = baT [112] from rfl, show (⟨#[97 + UInt8.ofNat j]⟩ : ByteArray) = baT [97 + UInt8.ofNat j] from rfl, show (⟨#[44, 32]⟩ : ByteArray) = baT [44, 32] from rfl, baT_app, baT_app, baT_app]
  congr 1
  simp [pref]
theorem letter_num : ∀ j, j < 11 → ((97 + UInt8.ofNat j).toNat : Int) = 97 + (j : Int) := by decide
theorem letter_conv (w : World) (j : Nat) (hj : j < 11) : (convert 58 9 (.slice (some ⟨w.heap.size, 0, none⟩) 1 1)).run Try.prog (w.alloc (.cells #[.int .u8 (97 + (j : Int))] 5)) = .ok (.string ⟨#[97 + UInt8.ofNat j]⟩) (w.alloc (.cells #[.int .u8 (97 + (j : Int))] 5)) := by
  have := sg_byte_text w (97 + UInt8.ofNat j)
  rw [letter_num j hj] at this
  exact this

def GoodM (X : World) (m : Nat) (e : Ending) (w' : World) : Prop := ∃ nm g f t pa pc b k d po pg, e = .returned (.tuple #[.agg #[.string nm, .bool true, .bool true, .slice (some ⟨pg, po, none⟩) (m + 1) pc, .slice b k d, .string g, .int .i64 f, .int .i64 t], .slice none 0 0]) ∧ m + 1 ≤ pc ∧ pc ≤ 9223372036854775807 ∧ pg < w'.heap.size ∧ w'.cell? ⟨pg, po + m, none⟩ = some (.string vaB) ∧ Below X.heap.size X w' ∧ pa = pg ∧
  ∀ Y : World, Below w'.heap.size w' Y → Calls Try.prog 25 #[.agg #[.string nm, .bool true, .bool true, .slice (some ⟨pg, po, none⟩) (m + 1) pc, .slice b k d, .string g, .int .i64 f, .int .i64 t], .string ⟨#[95, 95, 86, 65, 95, 65, 82, 71, 83, 95, 95]⟩] Y (IntNew (m : Int) Y)
theorem good_m {X : World} {v : Value} {m : Nat} (hm : m < 11) (h : ToksX (lexT (baT (goodT m))) v X) : Calls Try.prog 19 #[v] X (GoodM X m) := by
  obtain ⟨M, hp, hok, h1, h2, h3, h4, h5⟩ := more_good hm
  obtain ⟨o1, o2, o3⟩ := okT_is hok
  have := parse_any h o1 o2 o3
  rw [hp] at this
  refine this.mono fun e w' hg => ?_
  obtain ⟨a, n, c, b, k, d, he, hn, hk, hM, hb⟩ := good_post hg
  obtain ⟨nm, fn, va, ps, bd, g, f, t⟩ := M
  simp only at h1 h2 h3 h4 h5 he hn hk
  subst h1 h2 hn hk
  obtain ⟨pg, po, rfl, hpg, hpc⟩ := hM.1.get h4
  obtain ⟨-, l1, l2⟩ := hM.1.len
  rw [h3] at he l1 hM
  refine ⟨nm, g, f, t, pg, c, b, _, d, po, pg, he, l1, by unfold maxLen at l2; exact l2, hpg, hpc, hb, rfl, fun Y hY => ?_⟩
  have hq := mParam_any (bv := .slice b bd.length d) (hM.1.over hY) ⟨b, bd.length, d, rfl⟩ vaB
  simp only at hq
  rw [h5] at hq
  exact hq

def BadM (X : World) (e : Ending) (w' : World) : Prop := ∃ g, e = .returned (.tuple #[.agg #[.string ⟨#[]⟩, .bool false, .bool false, .slice none 0 0, .slice none 0 0, .string ⟨#[]⟩, .int .i64 0, .int .i64 0], .slice (some ⟨g, 0, none⟩) 1 1]) ∧ Below X.heap.size X w' ∧ g < w'.heap.size ∧ w'.cell? ⟨g, 0, none⟩ = some (.int .i64 5)
theorem bad_m {X : World} {v : Value} {m i : Nat} (hm : m < 11) (hi : i < 12) (hne : ¬ (i = 4 ∧ m = 0)) (h : ToksX (lexT (baT (badT m i))) v X) : Calls Try.prog 19 #[v] X (BadM X) := by
  obtain ⟨j, hp, hok, h1⟩ := more_bad hm hi hne
  obtain ⟨o1, o2, o3⟩ := okT_is hok
  have := parse_any h o1 o2 o3
  rw [hp] at this
  refine this.mono ?_
  rintro e w' ⟨g, he, hb, -, hl, hc, -⟩
  rw [h1] at hc
  exact ⟨g, he, hb, hl, hc⟩
def ZeroM (X : World) (e : Ending) (w' : World) : Prop := ∃ nm va a c b k d g f t, e = .returned (.tuple #[.agg #[.string nm, .bool true, .bool va, .slice a 0 c, .slice b k d, .string g, .int .i64 f, .int .i64 t], .slice none 0 0]) ∧ Below X.heap.size X w'
theorem zero_m {X : World} {v : Value} (h : ToksX (lexT (baT (badT 0 4))) v X) : Calls Try.prog 19 #[v] X (ZeroM X) := by
  obtain ⟨M, hp, hok, h1, h2⟩ := more_zero
  obtain ⟨o1, o2, o3⟩ := okT_is hok
  have := parse_any h o1 o2 o3
  rw [hp] at this
  refine this.mono fun e w' hg => ?_
  obtain ⟨a, n, c, b, k, d, he, hn, -, -, hb⟩ := good_post hg
  obtain ⟨nm, fn, va, ps, bd, g, f, t⟩ := M
  simp only at h1 h2 he hn
  subst h1
  rw [h2] at hn
  subst hn
  exact ⟨nm, va, a, c, b, k, d, g, f, t, he, hb⟩

set_option maxRecDepth 100000 in
set_option maxHeartbeats 6400000 in
theorem more_out (n k : Int) (W : World) (h : n < 0 ∨ 10 < n) : Calls Try.prog 6 #[.int .i64 n, .int .i64 k] W (TruePost W) := by
  rcases h with h | h
  · go_enter Try.func6, Try.ntmps6
    go_wp2_with (go_at_call 8; (with_reducible refine (awake9_any _).mono ?_); rintro e w2 ⟨rfl, hb⟩; have HB := Lib.hid hb; clear hb)
    go_ret
    exact ⟨rfl, HB.out⟩
  · have h' : ¬ n < 0 := by omega
    go_enter Try.func6, Try.ntmps6
    go_wp2_with (go_at_call 8; (with_reducible refine (awake9_any _).mono ?_); rintro e w2 ⟨rfl, hb⟩; have HB := Lib.hid hb; clear hb)
    go_ret
    exact ⟨rfl, HB.out⟩

/-- The row of texts that are none. -/
theorem bad_row (m : Nat) (P : ByteArray) (hP : P = baT (pref m)) (w : World) : ∀ i, i < 12 → (w.alloc (Obj.cells #[.string (⟨#[102, 40]⟩ ++ P ++ ⟨#[46, 46, 46, 44, 32, 122, 41, 32, 120]⟩), .string (⟨#[102, 40]⟩ ++ P ++ ⟨#[122, 41, 32, 95, 95, 86, 65, 95, 65, 82, 71, 83, 95, 95]⟩), .string ⟨#[102, 32, 95, 95, 86, 65, 95, 65, 82, 71, 83, 95, 95]⟩, .string (⟨#[102, 40]⟩ ++ P ++ ⟨#[46, 46, 46, 32, 120]⟩), .string (⟨#[102, 40]⟩ ++ P ++ ⟨#[41, 32, 120]⟩), .string ⟨#[95, 95, 86, 65, 95, 65, 82, 71, 83, 95, 95, 32, 120]⟩, .string ⟨#[100, 101, 102, 105, 110, 101, 100]⟩, .string ⟨#[95, 95, 76, 73, 78, 69, 95, 95, 32, 49]⟩, .string ⟨#[95, 95, 70, 73, 76, 69, 95, 95]⟩, .string ⟨#[102, 40, 95, 95, 86, 65, 95, 65, 82, 71, 83, 95, 95, 41, 32, 120]⟩, .string (⟨#[102, 40]⟩ ++ P ++ ⟨#[112, 97, 44, 32, 112, 97, 41, 32, 120]⟩), .string ⟨#[102, 40, 49, 41, 32, 120]⟩] 9)).cell? ⟨w.heap.size, i, none⟩ = some (.string (baT (badT m i))) := by
  subst hP
  intro i hi
  rw [Lib.cell_of_heap (heap_alloc_new w _)]
  have : i = 0 ∨ i = 1 ∨ i = 2 ∨ i = 3 ∨ i = 4 ∨ i = 5 ∨ i = 6 ∨ i = 7 ∨ i = 8 ∨ i = 9 ∨ i = 10 ∨ i = 11 := by omega
  rcases this with rfl | rfl | rfl | rfl | rfl | rfl | rfl | rfl | rfl | rfl | rfl | rfl <;> first | rfl | (simp only [badT, ← baT_app]; rfl)

set_option maxRecDepth 100000 in
set_option maxHeartbeats 12800000 in
theorem more_in (m : Nat) (k : Int) (W : World) (hm : m < 11) : Calls Try.prog 6 #[.int .i64 (m : Int), .int .i64 k] W (TruePost W) := by
  have h0 : ¬ (m : Int) < 0 := by omega
  have h1 : ¬ (10 : Int) < (m : Int) := by omega
  go_enter Try.func6, Try.ntmps6
  go_wp2
  go_loopw [5, 6] (fun s i wr => ∃ j : Nat, i = .int .i64 (j : Int) ∧ j ≤ m ∧ s = .string (baT (pref j)) ∧ Below W.heap.size W wr) (fun _ i _ => m - (intOf i).toNat)
  case atStart => exact ⟨0, rfl, Nat.zero_le _, rfl, Below.refl _ _⟩
  case round =>
    obtain ⟨j, rfl, hj, rfl, hb⟩ := hrel
    have HB := Lib.hid hb
    by_cases hlt : j < m
    · have hjI : (j : Int) < (m : Int) := by omega
      have HS : Hid ((baT (pref j)).size = 4 * j) := Lib.hid (by rw [baT_size, pref_len])
      have HE := Lib.hid (pref_step j)
      obtain ⟨A, hA⟩ : ∃ A, baT (pref j) = A := ⟨_, rfl⟩
      rw [hA] at HS HE ⊢
      have q1 : (A.size + 1 > 9223372036854775807) = False := by have := HS.out; simp; omega
      have q2 : (A.size + 1 + 1 > 9223372036854775807) = False := by have := HS.out; simp; omega
      have q3 : (A.size + 1 + 1 + 2 > 9223372036854775807) = False := by have := HS.out; simp; omega
      have hcv := letter_conv wr j (by omega)
      have hz : j < 11 := by omega
      clear hb hA
      go_wp2
      go_roundw
      case rel => exact ⟨j + 1, by go_num, hlt, by rw [← HE.out], HB.out.alloc HB.out.size _⟩
      case measure => simp [intOf]; omega
    · obtain rfl : j = m := by omega
      have hjI : ¬ (j : Int) < (j : Int) := by omega
      have HS : Hid ((baT (pref j)).size = 4 * j) := Lib.hid (by rw [baT_size, pref_len])
      have HT : Hid (∀ X : World, Calls Try.prog 20 #[.string (⟨#[102, 40]⟩ ++ baT (pref j) ++ ⟨#[46, 46, 46, 41, 32, 120, 32, 95, 95, 86, 65, 95, 65, 82, 71, 83, 95, 95]⟩)] X (ToksNew X (lexT (baT (goodT j))))) := Lib.hid (fun X => by
        have e : (⟨#[102, 40]⟩ : ByteArray) ++ baT (pref j) ++ ⟨#[46, 46, 46, 41, 32, 120, 32, 95, 95, 86, 65, 95, 65, 82, 71, 83, 95, 95]⟩ = baT (goodT j) := by
          simp only [goodT, ← baT_app]
          rfl
        rw [e]
        exact lexed9_any _ X (by rw [baT_size]; simp [goodT, pref_len]; omega))
      have HBT : Hid (∀ (i : Nat) (X : World), i < 12 → Calls Try.prog 20 #[.string (baT (badT j i))] X (ToksNew X (lexT (baT (badT j i))))) := Lib.hid (fun i X hi => lexed9_any _ X (by
        rw [baT_size]
        have : i = 0 ∨ i = 1 ∨ i = 2 ∨ i = 3 ∨ i = 4 ∨ i = 5 ∨ i = 6 ∨ i = 7 ∨ i = 8 ∨ i = 9 ∨ i = 10 ∨ i = 11 := by omega
        rcases this with rfl | rfl | rfl | rfl | rfl | rfl | rfl | rfl | rfl | rfl | rfl | rfl <;> simp [badT, pref_len] <;> omega))
      have HRD : Hid (∀ X : World, Calls Try.prog 26 #[.int .i64 k, .int .i64 12] X fun e w' => (∃ i : Nat, i < 12 ∧ e = .returned (.int .i64 (i : Int))) ∧ X = w') := Lib.hid (fun X => roundL_any k 12 (by omega) (by omega) X)
      obtain ⟨P, hP⟩ : ∃ P, baT (pref j) = P := ⟨_, rfl⟩
      have HROW := Lib.hid (bad_row j P hP.symm)
      rw [hP] at HS HT ⊢
      have z0 : (2 + P.size > 9223372036854775807) = False := by have := HS.out; simp; omega
      have z1 : (2 + P.size + 18 > 9223372036854775807) = False := by have := HS.out; simp; omega
      have z2 : (2 + P.size + 9 > 9223372036854775807) = False := by have := HS.out; simp; omega
      have z3 : (2 + P.size + 14 > 9223372036854775807) = False := by have := HS.out; simp; omega
      have z4 : (2 + P.size + 5 > 9223372036854775807) = False := by have := HS.out; simp; omega
      have z5 : (2 + P.size + 3 > 9223372036854775807) = False := by have := HS.out; simp; omega
      have hj10 : (j : Int) ≤ 10 := by omega
      clear hb hP hj
      go_wp2_with (first
        | (go_at_call 20; (with_reducible refine (HT.out _).mono ?_); rintro e w1 ⟨a1, n1, c1, rfl, -, hx, hb1⟩; have HX1 := Lib.hid hx; have HB1 := Lib.hid (below_up HB.out hb1); clear hx hb1)
        | (go_at_call 19; (with_reducible refine (good_m hm HX1.out).mono ?_); rintro e w2 ⟨nm, mg, mf, mt, pa, pc, b, bk, bd, po, pg, rfl, hp1, hp2, hpl, hpc, hb2, -, hpm⟩; have HB2 := Lib.hid (below_up HB1.out hb2); have HPM := Lib.hid hpm; (have hpn : pg ≠ w2.heap.size := by omega); (have hpn' : w2.heap.size ≠ pg := by omega); clear hb2 hpm)
        | (go_at_call 25; (with_reducible refine (HPM.out _ ((Below.refl w2.heap.size w2).alloc (Nat.le_refl _) _)).mono ?_); rintro e w3 ⟨rfl, hb3⟩; have HB3 := Lib.hid (below_up (HB2.out.alloc HB2.out.size _) hb3); clear hb3))
      have hrow := HROW.out w3
      have hB4 : Below W.heap.size W (w3.alloc (Obj.cells #[.string (⟨#[102, 40]⟩ ++ P ++ ⟨#[46, 46, 46, 44, 32, 122, 41, 32, 120]⟩), .string (⟨#[102, 40]⟩ ++ P ++ ⟨#[122, 41, 32, 95, 95, 86, 65, 95, 65, 82, 71, 83, 95, 95]⟩), .string ⟨#[102, 32, 95, 95, 86, 65, 95, 65, 82, 71, 83, 95, 95]⟩, .string (⟨#[102, 40]⟩ ++ P ++ ⟨#[46, 46, 46, 32, 120]⟩), .string (⟨#[102, 40]⟩ ++ P ++ ⟨#[41, 32, 120]⟩), .string ⟨#[95, 95, 86, 65, 95, 65, 82, 71, 83, 95, 95, 32, 120]⟩, .string ⟨#[100, 101, 102, 105, 110, 101, 100]⟩, .string ⟨#[95, 95, 76, 73, 78, 69, 95, 95, 32, 49]⟩, .string ⟨#[95, 95, 70, 73, 76, 69, 95, 95]⟩, .string ⟨#[102, 40, 95, 95, 86, 65, 95, 65, 82, 71, 83, 95, 95, 41, 32, 120]⟩, .string (⟨#[102, 40]⟩ ++ P ++ ⟨#[112, 97, 44, 32, 112, 97, 41, 32, 120]⟩), .string ⟨#[102, 40, 49, 41, 32, 120]⟩] 9)) := HB3.out.alloc HB3.out.size _
      have hbl : w3.heap.size < (w3.alloc (Obj.cells #[.string (⟨#[102, 40]⟩ ++ P ++ ⟨#[46, 46, 46, 44, 32, 122, 41, 32, 120]⟩), .string (⟨#[102, 40]⟩ ++ P ++ ⟨#[122, 41, 32, 95, 95, 86, 65, 95, 65, 82, 71, 83, 95, 95]⟩), .string ⟨#[102, 32, 95, 95, 86, 65, 95, 65, 82, 71, 83, 95, 95]⟩, .string (⟨#[102, 40]⟩ ++ P ++ ⟨#[46, 46, 46, 32, 120]⟩), .string (⟨#[102, 40]⟩ ++ P ++ ⟨#[41, 32, 120]⟩), .string ⟨#[95, 95, 86, 65, 95, 65, 82, 71, 83, 95, 95, 32, 120]⟩, .string ⟨#[100, 101, 102, 105, 110, 101, 100]⟩, .string ⟨#[95, 95, 76, 73, 78, 69, 95, 95, 32, 49]⟩, .string ⟨#[95, 95, 70, 73, 76, 69, 95, 95]⟩, .string ⟨#[102, 40, 95, 95, 86, 65, 95, 65, 82, 71, 83, 95, 95, 41, 32, 120]⟩, .string (⟨#[102, 40]⟩ ++ P ++ ⟨#[112, 97, 44, 32, 112, 97, 41, 32, 120]⟩), .string ⟨#[102, 40, 49, 41, 32, 120]⟩] 9)).heap.size := by simp
      obtain ⟨w4, hw4⟩ : ∃ w4, w3.alloc (Obj.cells #[.string (⟨#[102, 40]⟩ ++ P ++ ⟨#[46, 46, 46, 44, 32, 122, 41, 32, 120]⟩), .string (⟨#[102, 40]⟩ ++ P ++ ⟨#[122, 41, 32, 95, 95, 86, 65, 95, 65, 82, 71, 83, 95, 95]⟩), .string ⟨#[102, 32, 95, 95, 86, 65, 95, 65, 82, 71, 83, 95, 95]⟩, .string (⟨#[102, 40]⟩ ++ P ++ ⟨#[46, 46, 46, 32, 120]⟩), .string (⟨#[102, 40]⟩ ++ P ++ ⟨#[41, 32, 120]⟩), .string ⟨#[95, 95, 86, 65, 95, 65, 82, 71, 83, 95, 95, 32, 120]⟩, .string ⟨#[100, 101, 102, 105, 110, 101, 100]⟩, .string ⟨#[95, 95, 76, 73, 78, 69, 95, 95, 32, 49]⟩, .string ⟨#[95, 95, 70, 73, 76, 69, 95, 95]⟩, .string ⟨#[102, 40, 95, 95, 86, 65, 95, 65, 82, 71, 83, 95, 95, 41, 32, 120]⟩, .string (⟨#[102, 40]⟩ ++ P ++ ⟨#[112, 97, 44, 32, 112, 97, 41, 32, 120]⟩), .string ⟨#[102, 40, 49, 41, 32, 120]⟩] 9) = w4 := ⟨_, rfl⟩
      obtain ⟨rb, hrb⟩ : ∃ rb, w3.heap.size = rb := ⟨_, rfl⟩
      rw [hw4] at hrow hB4 hbl ⊢
      rw [hrb] at hrow hbl ⊢
      have HRW := Lib.hid hrow
      have HB4 := Lib.hid hB4
      clear hrow hB4 hw4 hrb HROW
      (with_reducible refine (HRD.out _).mono ?_)
      rintro e w' ⟨⟨i, hi, rfl⟩, rfl⟩
      have hci := HRW.out i hi
      have hiI : (i : Int) < 12 := by omega
      have hi0 : (0 : Int) ≤ (i : Int) := by omega
      have HTI : Hid (∀ X : World, Calls Try.prog 20 #[.string (baT (badT j i))] X (ToksNew X (lexT (baT (badT j i))))) := Lib.hid (fun X => HBT.out i X hi)
      by_cases hz : i = 4 ∧ j = 0
      · obtain ⟨rfl, rfl⟩ := hz
        obtain ⟨Z, hZ⟩ : ∃ Z, baT (badT 0 4) = Z := ⟨_, rfl⟩
        have HPZ : Hid (∀ (X : World) (v : Value), ToksX (lexT Z) v X → Calls Try.prog 19 #[v] X (ZeroM X)) := Lib.hid (fun X v h => zero_m (hZ ▸ h))
        rw [hZ] at hci HTI
        clear hZ HRW HBT HRD
        go_wp2_with (first
          | (go_at_call 20; (with_reducible refine (HTI.out _).mono ?_); rintro e w5 ⟨a5, n5, c5, rfl, -, hx, hb5⟩; have HX5 := Lib.hid hx; have HB5 := Lib.hid (below_up HB4.out hb5); clear hx hb5)
          | (go_at_call 19; (with_reducible refine (HPZ.out _ _ HX5.out).mono ?_); rintro e w6 ⟨nm6, va6, a6, c6, b6, k6, d6, g6, f6, t6, rfl, hb6⟩; have HB6 := Lib.hid (below_up HB5.out hb6); clear hb6)
          | (go_at_call 8; (with_reducible refine (awake9_any _).mono ?_); rintro e w7 ⟨rfl, hb7⟩; have HB7 : Hid (Below W.heap.size W w7) := Lib.hid (below_up (HB6.out.alloc HB6.out.size _) hb7); clear hb7))
        go_ret
        exact ⟨rfl, HB7.out⟩
      · have HPZ : Hid (∀ (X : World) (v : Value), ToksX (lexT (baT (badT j i))) v X → Calls Try.prog 19 #[v] X (BadM X)) := Lib.hid (fun X v h => bad_m hm hi hz h)
        obtain ⟨b4, hb4⟩ : ∃ b, ((i : Int) == 4) = b := ⟨_, rfl⟩
        obtain ⟨b0, hb0⟩ : ∃ b, ((j : Int) == 0) = b := ⟨_, rfl⟩
        have HW : Hid (b4 = false ∨ (b4 = true ∧ b0 = false)) := Lib.hid (by
          by_cases h4 : i = 4
          · right
            exact ⟨by rw [← hb4]; simp; omega, by rw [← hb0]; simp; omega⟩
          · left
            rw [← hb4]
            simp
            omega)
        obtain ⟨Z, hZ⟩ : ∃ Z, baT (badT j i) = Z := ⟨_, rfl⟩
        rw [hZ] at hci HTI HPZ
        clear hZ HRW HBT HRD hz
        rcases HW.out with rfl | ⟨rfl, rfl⟩
        all_goals
          clear HW
          go_wp2_with (first
            | (go_at_call 20; (with_reducible refine (HTI.out _).mono ?_); rintro e w5 ⟨a5, n5, c5, rfl, -, hx, hb5⟩; have HX5 := Lib.hid hx; have HB5 := Lib.hid (below_up HB4.out hb5); clear hx hb5)
            | (go_at_call 19; (with_reducible refine (HPZ.out _ _ HX5.out).mono ?_); rintro e w6 ⟨g6, rfl, hb6, hg6, hc6⟩; have HB6 := Lib.hid (below_up HB5.out hb6); (have hg7 : g6 ≠ w6.heap.size := by omega); (have hg8 : w6.heap.size ≠ g6 := by omega); clear hb6)
            | (go_at_call 8; (with_reducible refine (awake9_any _).mono ?_); rintro e w7 ⟨rfl, hb7⟩; have HB7 : Hid (Below W.heap.size W w7) := Lib.hid (below_up (HB6.out.alloc HB6.out.size _) hb7); clear hb7))
          go_ret
          exact ⟨rfl, HB7.out⟩

/-- **MacroMore**, walked. -/
theorem law_more (n k : Int) (W : World) : Calls Try.prog 6 #[.int .i64 n, .int .i64 k] W fun e W' => e = .returned (.bool true) ∧ Below W.heap.size W W' := by
  by_cases h : n < 0 ∨ 10 < n
  · exact more_out n k W h
  · obtain ⟨m, rfl⟩ : ∃ m : Nat, n = (m : Int) := ⟨n.toNat, by omega⟩
    exact more_in m k W (by omega)

end Go.Proofs.Ytjbgikhhdhadjaa
