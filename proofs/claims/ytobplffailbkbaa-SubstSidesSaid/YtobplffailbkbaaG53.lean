/-
  Texts of the proof, put together: LSSides.
-/
import Derived.Test.YtobplffailbkbaaG51
import Derived.Test.YtobplffailbkbaaG52

/-
  SubstSides, walked.
-/
namespace Go.Proofs.Ytobplffailbkbaa
open Go.RowKit Go.Maps

theorem sd_letter : ∀ j, j < 11 → ((97 + UInt8.ofNat j).toNat : Int) = 97 + (j : Int) := by decide
theorem sd_conv (w : World) (j : Nat) (hj : j < 11) : (convert 35 9 (.slice (some ⟨w.heap.size, 0, none⟩) 1 1)).run Try.prog (w.alloc (.cells #[.int .u8 (97 + (j : Int))] 5)) = .ok (.string ⟨#[97 + UInt8.ofNat j]⟩) (w.alloc (.cells #[.int .u8 (97 + (j : Int))] 5)) := by
  have := sg_byte_text w (97 + UInt8.ofNat j)
  rw [sd_letter j hj] at this
  exact this
theorem sd_sizes {n : Nat} (h : n < 11) : (sdT 120 n).size = 3 * n ∧ (sdT 121 n).size = 3 * n := sd_size ⟨n, h⟩

set_option maxRecDepth 100000 in
set_option maxHeartbeats 6400000 in
theorem sides_out (a b : Int) (W : World) (h : a < 0 ∨ 10 < a ∨ b < 0 ∨ 10 < b) : Calls Try.prog 6 #[.int .i64 a, .int .i64 b] W (TruePost W) := by
  have hc : (a < 0) ∨ (¬ a < 0 ∧ 10 < a) ∨ (¬ a < 0 ∧ ¬ 10 < a ∧ b < 0) ∨ (¬ a < 0 ∧ ¬ 10 < a ∧ ¬ b < 0 ∧ 10 < b) := by omega
  rcases hc with h1 | ⟨h1, h2⟩ | ⟨h1, h2, h3⟩ | ⟨h1, h2, h3, h4⟩
  all_goals
    clear h
    go_enter Try.func6, Try.ntmps6
    go_wp2_with (go_at_call 8; (with_reducible refine (awake11_any _).mono ?_); rintro e w2 ⟨rfl, hb⟩; have HB := Lib.hid hb; clear hb)
    go_ret
    exact ⟨rfl, HB.out⟩

set_option maxRecDepth 100000 in
set_option maxHeartbeats 12800000 in
theorem sides_in (a b : Nat) (W : World) (ha : a < 11) (hb : b < 11) : Calls Try.prog 6 #[.int .i64 (a : Int), .int .i64 (b : Int)] W (TruePost W) := by
  have h0 : ¬ (a : Int) < 0 := by omega
  have h1 : ¬ (10 : Int) < (a : Int) := by omega
  have h2 : ¬ (b : Int) < 0 := by omega
  have h3 : ¬ (10 : Int) < (b : Int) := by omega
  have T1 : Hid (∀ X : World, Calls Try.prog 12 #[.string ⟨#[70, 40, 112, 44, 32, 113, 41, 32, 91, 112, 35, 35, 113, 93]⟩] X (ToksNew X (lexT ⟨#[70, 40, 112, 44, 32, 113, 41, 32, 91, 112, 35, 35, 113, 93]⟩))) := Lib.hid (fun X => lexed9_any _ X (by decide))
  have P1 : Hid (∀ (X : World) (a : Option Addr) (n c : Nat), ToksX (lexT ⟨#[70, 40, 112, 44, 32, 113, 41, 32, 91, 112, 35, 35, 113, 93]⟩) (.slice a n c) X → Calls Try.prog 13 #[.slice a n c] X (fun e w' => ∃ pa pn pc ba bn bc, e = .returned (.tuple #[.agg #[.string ⟨#[70]⟩, .bool true, .bool false, .slice pa pn pc, .slice ba bn bc, .string fB, .int .i64 0, .int .i64 1], .slice none 0 0]) ∧ MacAt sdM (.slice pa pn pc) (.slice ba bn bc) w' ∧ Below X.heap.size X w')) := Lib.hid (fun X a n c h => (rparse_any h sd_p rfl rfl (by simp [sdM]) (by simp [sdM]) (by rw [sd_t]; decide)).mono fun e w' h => by
    obtain ⟨pv, bv, he, hm, hb⟩ := h
    obtain ⟨pa, pn, pc, rfl⟩ := hm.1.form
    obtain ⟨ba, bn, bc, rfl⟩ := hm.2.form
    exact ⟨pa, pn, pc, ba, bn, bc, he, hm, hb⟩)
  have M1 : Hid (∀ (X : World) (pa : Option Addr) (pn pc : Nat) (ba : Option Addr) (bn bc : Nat), MacAt sdM (.slice pa pn pc) (.slice ba bn bc) X → Calls Try.prog 15 #[.agg #[.string ⟨#[70]⟩, .bool true, .bool false, .slice pa pn pc, .slice ba bn bc, .string fB, .int .i64 0, .int .i64 1]] X (fun e w' => e = .returned (.agg #[.string ⟨#[70]⟩, .bool true, .bool false, .slice pa pn pc, .slice ba bn bc, .string fB, .int .i64 0, .int .i64 1]) ∧ Below X.heap.size X w')) := Lib.hid (fun X pa pn pc ba bn bc h => made11_any h)
  have B1 : Hid (∀ (X : World) (pa : Option Addr) (pn pc : Nat) (ba : Option Addr) (bn bc : Nat) (rv : Value), MacAt sdM (.slice pa pn pc) (.slice ba bn bc) X → RowsX [sdL 120 a, sdL 121 b] rv X → Calls Try.prog 14 #[.agg #[.string ⟨#[70]⟩, .bool true, .bool false, .slice pa pn pc, .slice ba bn bc, .string fB, .int .i64 0, .int .i64 1], rv, .slice none 0 0, .agg #[.string ⟨#[]⟩, .string ⟨#[]⟩, .int .i64 0, .int .i64 0, .bool false], .slice none 0 0] X (SideOut X a b)) := Lib.hid (fun X pa pn pc ba bn bc rv hm hr => side_body ha hb hm hr)
  have X1 : Hid (∀ X : World, Calls Try.prog 12 #[.string (sdT 120 a)] X (ToksN X (sdL 120 a))) := Lib.hid (fun X => by
    have := toks11_any (sdT 120 a) X (by have := (sd_sizes ha).1; omega)
    rw [(sd_lex ha).1] at this
    exact this)
  have Y1 : Hid (∀ X : World, Calls Try.prog 12 #[.string (sdT 121 b)] X (ToksN X (sdL 121 b))) := Lib.hid (fun X => by
    have := toks11_any (sdT 121 b) X (by have := (sd_sizes hb).2; omega)
    rw [(sd_lex hb).2] at this
    exact this)
  have HA : Hid (∀ X : World, Calls Try.prog 8 #[] X (TruePost X)) := Lib.hid (fun X => awake11_any X)
  go_enter Try.func6, Try.ntmps6
  go_wp2_with (first
    | (go_at_call 12; (with_reducible refine (T1.out _).mono ?_); rintro e w1 ⟨a1, n1, c1, rfl, hn, hx, hb⟩; have HX1 := Lib.hid hx; have HB1 := Lib.hid hb; clear hx hb hn)
    | (go_at_call 13; (with_reducible refine (P1.out _ _ _ _ HX1.out).mono ?_); rintro e w2 ⟨pa, pn, pc, ba, bn, bc, rfl, hm, hb⟩; have HM2 := Lib.hid hm; have HB2 := Lib.hid (below_up HB1.out hb); clear hm hb))
  obtain ⟨W3, hW3⟩ : ∃ X, w2.alloc (.cells #[.string ⟨#[70]⟩, .bool true, .bool false, .slice pa pn pc, .slice ba bn bc, .string fB, .int .i64 0, .int .i64 1] 38) = X := ⟨_, rfl⟩
  obtain ⟨bx, hbx⟩ : ∃ x, w2.heap.size = x := ⟨_, rfl⟩
  have HB3 : Hid (Below W.heap.size W W3) := Lib.hid (hW3 ▸ HB2.out.alloc HB2.out.size _)
  have HM3 : Hid (MacAt sdM (.slice pa pn pc) (.slice ba bn bc) W3) := Lib.hid (hW3 ▸ HM2.out.over ((Below.refl w2.heap.size w2).alloc (Nat.le_refl _) (_)))
  have HQ3 : Hid (W3.heap[bx]? = some (.cells #[.string ⟨#[70]⟩, .bool true, .bool false, .slice pa pn pc, .slice ba bn bc, .string fB, .int .i64 0, .int .i64 1] 38)) := Lib.hid (by rw [← hW3, ← hbx]; exact heap_alloc_new w2 _)
  (try rw [hW3])
  (try rw [hbx])
  clear hW3 hbx HM2 HX1
  go_loopw [7, 9] (fun s i wr => ∃ j : Nat, i = .int .i64 (j : Int) ∧ j ≤ a ∧ s = .string (sdT 120 j) ∧ Below W3.heap.size W3 wr) (fun _ i _ => a - (intOf i).toNat)
  case atStart => exact ⟨0, rfl, Nat.zero_le _, rfl, Below.refl _ _⟩
  case round =>
    obtain ⟨j, rfl, hj, rfl, hb0⟩ := hrel
    have HB := Lib.hid hb0
    by_cases hlt : j < a
    · have hjI : (j : Int) < (a : Int) := by omega
      have HS : Hid ((sdT 120 j).size = 3 * j) := Lib.hid ((sd_sizes (by omega)).1)
      have HE : Hid (sdT 120 (j + 1) = sdT 120 j ++ ⟨#[32, 120]⟩ ++ ⟨#[97 + UInt8.ofNat j]⟩) := Lib.hid rfl
      obtain ⟨A, hA⟩ : ∃ A, sdT 120 j = A := ⟨_, rfl⟩
      rw [hA] at HS HE ⊢
      have q1 : (A.size + 2 > 9223372036854775807) = False := by have := HS.out; simp; omega
      have q2 : (A.size + 2 + 1 > 9223372036854775807) = False := by have := HS.out; simp; omega
      have hcv := sd_conv wr j (by omega)
      have hz : j < 11 := by omega
      clear hb0 hA
      go_wp2
      go_roundw
      case rel => exact ⟨j + 1, by go_num, hlt, by rw [← HE.out], HB.out.alloc HB.out.size _⟩
      case measure => simp [intOf]; omega
    · have hja : a = j := by omega
      subst hja
      have hjI : ¬ (a : Int) < (a : Int) := by omega
      clear hb0
      go_wp2
      go_loopw [8, 10] (fun s i wr => ∃ j : Nat, i = .int .i64 (j : Int) ∧ j ≤ b ∧ s = .string (sdT 121 j) ∧ Below W3.heap.size W3 wr) (fun _ i _ => b - (intOf i).toNat)
      case atStart => exact ⟨0, rfl, Nat.zero_le _, rfl, HB.out⟩
      case round =>
        obtain ⟨j, rfl, hj, rfl, hb0⟩ := hrel
        have HB := Lib.hid hb0
        by_cases hlt : j < b
        · have hjI : (j : Int) < (b : Int) := by omega
          have HS : Hid ((sdT 121 j).size = 3 * j) := Lib.hid ((sd_sizes (by omega)).2)
          have HE : Hid (sdT 121 (j + 1) = sdT 121 j ++ ⟨#[32, 121]⟩ ++ ⟨#[97 + UInt8.ofNat j]⟩) := Lib.hid rfl
          obtain ⟨A, hA⟩ : ∃ A, sdT 121 j = A := ⟨_, rfl⟩
          rw [hA] at HS HE ⊢
          have q1 : (A.size + 2 > 9223372036854775807) = False := by have := HS.out; simp; omega
          have q2 : (A.size + 2 + 1 > 9223372036854775807) = False := by have := HS.out; simp; omega
          have hcv := sd_conv wr j (by omega)
          have hz : j < 11 := by omega
          clear hb0 hA
          go_wp2
          go_roundw
          case rel => exact ⟨j + 1, by go_num, hlt, by rw [← HE.out], HB.out.alloc HB.out.size _⟩
          case measure => simp [intOf]; omega
        · have hjb : b = j := by omega
          subst hjb
          have hjI : ¬ (b : Int) < (b : Int) := by omega
          clear hb0
          have HB4 : Hid (Below W.heap.size W wr) := Lib.hid (below_up HB3.out HB.out)
          have HM4 := Lib.hid (HM3.out.over HB.out)
          have HQ4 := Lib.hid ((HB.out.block _ (row_lt HQ3.out)).trans HQ3.out)
          obtain ⟨q0, q1, q2, q3, q4, q5, q6, q7⟩ := cells8 HQ4.out
          obtain ⟨N, hN⟩ : ∃ N, sdN a b = N := ⟨_, rfl⟩
          have hN' : ((0 < a ∧ 0 < b) ∧ N = a + b - 1) ∨ (¬ (0 < a ∧ 0 < b) ∧ N = a + b) := by
            unfold sdN at hN
            by_cases hab : 0 < a ∧ 0 < b
            · left
              rw [if_pos hab] at hN
              exact ⟨hab, hN.symm⟩
            · right
              rw [if_neg hab] at hN
              exact ⟨hab, hN.symm⟩
          have w1 : IntKind.i64.wrap ((a : Int) + (b : Int)) = (a : Int) + (b : Int) := IntWalk.i64_in _ (by omega)
          have w2' : IntKind.i64.wrap ((N : Int) + 2) = (N : Int) + 2 := IntWalk.i64_in _ (by omega)
          have w3' : IntKind.i64.wrap ((N : Int) + 1) = (N : Int) + 1 := IntWalk.i64_in _ (by omega)
          have w4' : IntKind.i64.wrap ((a : Int) + (b : Int) - 1) = (a : Int) + (b : Int) - 1 := IntWalk.i64_in _ (by omega)
          have HN := Lib.hid hN
          have HL3 : Hid (∀ (X : World) (e : Ending) (w' : World), SideOut X a b e w' → ∃ g o lc f fc da dc, e = .returned (.tuple #[.slice (some ⟨g, o, none⟩) (N + 2) lc, .slice (some ⟨f, 0, none⟩) (N + 2) fc, .slice da 0 dc]) ∧ g < w'.heap.size ∧ f < w'.heap.size ∧ N + 2 ≤ lc ∧ lc ≤ maxLen ∧ N + 2 ≤ fc ∧ fc ≤ maxLen ∧ w'.cell? ⟨g, o + 1, none⟩ = some (.string ⟨#[91]⟩) ∧ w'.cell? ⟨g, o + (N + 1) * 8 + 1, none⟩ = some (.string ⟨#[93]⟩) ∧ (∀ i, i < N → w'.cell? ⟨f, i + 1, none⟩ = some (.int .i64 (sdW a b i).2.2) ∧ ∃ t sa sn sc, t.x = ⟨(sdW a b i).1.toArray⟩ ∧ t.d = (sdW a b i).2.1 ∧ TokX t (.slice sa sn sc) g (o + (i + 1) * 8) w') ∧ Below X.heap.size X w') := Lib.hid (fun X e w' h => by
            unfold SideOut at h
            rw [hN] at h
            exact h)
          clear hN HQ3 HM3 T1 P1
          have hcs : (((0 : Int) < (a : Int)) ∧ ((0 : Int) < (b : Int)) ∧ ((a : Int) + (b : Int) - 1 = (N : Int))) ∨ ((((0 : Int) < (a : Int)) ∧ ¬ ((0 : Int) < (b : Int))) ∧ ((a : Int) + (b : Int) = (N : Int))) ∨ (¬ ((0 : Int) < (a : Int)) ∧ ((a : Int) + (b : Int) = (N : Int))) := by omega
          have HN2 := Lib.hid hN'
          clear hN'
          have HBR := HB
          rcases hcs with ⟨hp, hq, hs⟩ | ⟨⟨hp, hq⟩, hs⟩ | ⟨hp, hs⟩
          · have hd1 : decide (0 < a) = true := by simp; omega
            have hd2 : decide (0 < b) = true := by simp; omega
            have hd3 : 0 < a := by omega
            have hd4 : 0 < b := by omega
            go_wp2_with (first
              | (go_at_call 15; (with_reducible refine (M1.out _ _ _ _ _ _ _ HM4.out).mono ?_); rintro e w5 ⟨rfl, hb⟩; have HB5 := Lib.hid (below_up HB4.out hb); have HM5 := Lib.hid (HM4.out.over hb); clear hb)
              | (go_at_call 12; first
                  | ((with_reducible refine (X1.out _).mono ?_); rintro e w6 ⟨a6, n6, c6, rfl, hn, hx, hz, hb⟩; have HX6 := Lib.hid hx; have HZ6 := Lib.hid hz; have HB6 := Lib.hid (below_up HB5.out hb); have HM6 := Lib.hid (HM5.out.over hb); clear hb hn hx hz)
                  | ((with_reducible refine (Y1.out _).mono ?_); rintro e w7 ⟨a7, n7, c7, rfl, hn, hx, hz, hb⟩; have HR7 := Lib.hid (rowsX_two (E := 28) (HX6.out.over hb) hx HZ6.out hz); have HB7 := Lib.hid (below_up HB6.out hb); have HM7 := Lib.hid (HM6.out.over hb); clear hb hn hx hz))
              | (go_at_call 14; (with_reducible refine (B1.out _ _ _ _ _ _ _ _ (HM7.out.over ((Below.refl w7.heap.size w7).alloc (Nat.le_refl _) (_))) HR7.out).mono ?_); rintro e w8 hso; (obtain ⟨g, o, lc, f, fc, da, dc, rfl, hg, hf, l1, l2, l3, l4, c0, c1, hall, hb⟩ := HL3.out _ _ _ hso); have HB8 := Lib.hid (below_up HB7.out (below_up ((Below.refl w7.heap.size w7).alloc (Nat.le_refl _) (_)) hb)); have HALL := Lib.hid hall; unfold maxLen at l2 l4; clear hso hall hb))
            go_loopw [15] (fun iv wr => ∃ i : Nat, iv = .int .i64 (i : Int) ∧ i ≤ N ∧ Below w8.heap.size w8 wr) (fun iv _ => N - (intOf iv).toNat)
            case atStart => exact ⟨0, rfl, Nat.zero_le _, Below.refl _ _⟩
            case round =>
              obtain ⟨i, rfl, hi, hb0⟩ := hrel
              have HB9 := Lib.hid hb0
              by_cases hlt : i < N
              · obtain ⟨k0, t, sa, sn, sc, tx, td, htok⟩ := HALL.out i hlt
                by_cases hi1 : i + 1 = a
                · have hW : sdW a b i = ([120, 97 + UInt8.ofNat i, 121, 97], true, -1) := by
                    unfold sdW
                    rw [if_pos ⟨by omega, by omega, by omega⟩]
                  rw [hW] at tx td k0
                  simp only at tx td k0
                  rw [show ([120, 97 + UInt8.ofNat i, 121, 97] : List UInt8).toArray = #[120, 97 + UInt8.ofNat i, 121, 97] from rfl] at tx
                  obtain ⟨TX, hTX⟩ : ∃ T : ByteArray, ⟨#[120, 97 + UInt8.ofNat i, 121, 97]⟩ = T := ⟨_, rfl⟩
                  rw [hTX] at tx
                  have hcat : ⟨#[120]⟩ ++ ⟨#[97 + UInt8.ofNat i]⟩ ++ ⟨#[121, 97]⟩ = TX := hTX
                  have hcv := fun X : World => sd_conv X i (by omega)
                  have v1 : IntKind.i64.wrap ((a : Int) - 1) = (a : Int) - 1 := IntWalk.i64_in _ (by omega)
                  have u1 : ((i : Int) == (a : Int) - 1) = true := by simp; omega
                  have u2 : (i : Int) = (a : Int) - 1 := by omega
                  have v2 : IntKind.i64.wrap (97 + (a : Int)) = 97 + (a : Int) := IntWalk.i64_in _ (by omega)
                  have v3 : IntKind.i64.wrap (97 + (a : Int) - 1) = 97 + (i : Int) := by rw [IntWalk.i64_in _ (by omega)]; omega
                  have hz : i < 11 := by omega
                  clear u2
                  clear hW hTX
                  obtain ⟨x0, x1, x2, x3, x4, x5, x6, x7⟩ := htok.next hb0 hg
                  have y0 := bcell hb0 k0 hf
                  rw [show i + 1 = 1 + i from Nat.add_comm _ _] at x0 x1 x2 x3 x4 x5 x6 x7 y0
                  have hiI : (i : Int) < (N : Int) := by omega
                  have g1 : (0 : Int) ≤ 1 + (i : Int) := by omega
                  have g2 : 1 + (i : Int) < ((N + 2 : Nat) : Int) := by omega
                  have g3 : IntKind.i64.wrap (1 + (i : Int)) = 1 + (i : Int) := IntWalk.i64_in _ (by omega)
                  have g4 : 1 + (i : Int) < (N : Int) + 2 := by omega
                  have g5 : g < wr.heap.size := Nat.lt_of_lt_of_le hg hb0.size
                  have g6 : f < wr.heap.size := Nat.lt_of_lt_of_le hf hb0.size
                  have g7 : g ≠ wr.heap.size := Nat.ne_of_lt g5
                  have g8 : f ≠ wr.heap.size := Nat.ne_of_lt g6
                  have g9 : wr.heap.size ≠ g := Nat.ne_of_gt g5
                  have g10 : wr.heap.size ≠ f := Nat.ne_of_gt g6
                  have g11 : (1 + (i : Int)).toNat = 1 + i := by omega
                  clear k0 htok hb0
                  go_wp2
                  go_region
                  obtain ⟨W9, hW9⟩ : ∃ X, (wr.alloc (.cells #[.int .i64 t.k, .string TX, .bool t.sp, .string t.g, .int .i64 t.f, .int .i64 t.t, .bool true, .slice sa sn sc] 26)).drew = X := ⟨_, rfl⟩
                  have hq9 : W9.heap[wr.heap.size]? = some (.cells #[.int .i64 t.k, .string TX, .bool t.sp, .string t.g, .int .i64 t.f, .int .i64 t.t, .bool true, .slice sa sn sc] 26) := by rw [← hW9]; exact heap_alloc_new wr _
                  have HB10 : Hid (Below w8.heap.size w8 W9) := Lib.hid (hW9 ▸ (HB9.out.alloc HB9.out.size _).drew)
                  obtain ⟨e0, e1, e2, e3, e4, e5, e6, e7⟩ := cells8 hq9
                  rw [hW9]
                  obtain ⟨bt, hbt⟩ : ∃ x, wr.heap.size = x := ⟨_, rfl⟩
                  have hbl := row_lt hq9
                  rw [hbt] at e0 e1 e2 e3 e4 e5 e6 e7 hbl ⊢
                  have e9 := bcell ((Below.refl W9.heap.size W9).alloc (Nat.le_refl _) (.cells #[.int .u8 (97 + (i : Int))] 5)) e6 hbl
                  have hcv := hcv W9
                  clear hW9 hq9 hbt x0 x1 x2 x3 x4 x5 x6 x7 y0 g1 g2 g3 g4 g5 g6 g7 g8 g9 g10 g11
                  go_wp2
                  go_roundw
                  case rel => exact ⟨i + 1, by go_num, hlt, HB10.out.alloc HB10.out.size _⟩
                  case measure => simp [intOf]; omega
                · by_cases hi2 : i < a
                  · have hW : sdW a b i = ([120, 97 + UInt8.ofNat i], false, 0) := by
                      unfold sdW
                      rw [if_neg (by omega), if_pos (by omega)]
                    rw [hW] at tx td k0
                    simp only at tx td k0
                    rw [show ([120, 97 + UInt8.ofNat i] : List UInt8).toArray = #[120, 97 + UInt8.ofNat i] from rfl] at tx
                    obtain ⟨TX, hTX⟩ : ∃ T : ByteArray, ⟨#[120, 97 + UInt8.ofNat i]⟩ = T := ⟨_, rfl⟩
                    rw [hTX] at tx
                    have hcat : ⟨#[120]⟩ ++ ⟨#[97 + UInt8.ofNat i]⟩ = TX := hTX
                    have hcv := fun X : World => sd_conv X i (by omega)
                    have v1 : IntKind.i64.wrap ((a : Int) - 1) = (a : Int) - 1 := IntWalk.i64_in _ (by omega)
                    have u1 : ((i : Int) == (a : Int) - 1) = false := by simp; omega
                    have u3 : (i : Int) < (a : Int) := by omega
                    have hz : i < 11 := by omega
                    clear hW hTX
                    obtain ⟨x0, x1, x2, x3, x4, x5, x6, x7⟩ := htok.next hb0 hg
                    have y0 := bcell hb0 k0 hf
                    rw [show i + 1 = 1 + i from Nat.add_comm _ _] at x0 x1 x2 x3 x4 x5 x6 x7 y0
                    have hiI : (i : Int) < (N : Int) := by omega
                    have g1 : (0 : Int) ≤ 1 + (i : Int) := by omega
                    have g2 : 1 + (i : Int) < ((N + 2 : Nat) : Int) := by omega
                    have g3 : IntKind.i64.wrap (1 + (i : Int)) = 1 + (i : Int) := IntWalk.i64_in _ (by omega)
                    have g4 : 1 + (i : Int) < (N : Int) + 2 := by omega
                    have g5 : g < wr.heap.size := Nat.lt_of_lt_of_le hg hb0.size
                    have g6 : f < wr.heap.size := Nat.lt_of_lt_of_le hf hb0.size
                    have g7 : g ≠ wr.heap.size := Nat.ne_of_lt g5
                    have g8 : f ≠ wr.heap.size := Nat.ne_of_lt g6
                    have g9 : wr.heap.size ≠ g := Nat.ne_of_gt g5
                    have g10 : wr.heap.size ≠ f := Nat.ne_of_gt g6
                    have g11 : (1 + (i : Int)).toNat = 1 + i := by omega
                    clear k0 htok hb0
                    go_wp2
                    go_region
                    obtain ⟨W9, hW9⟩ : ∃ X, (wr.alloc (.cells #[.int .i64 t.k, .string TX, .bool t.sp, .string t.g, .int .i64 t.f, .int .i64 t.t, .bool false, .slice sa sn sc] 26)).drew = X := ⟨_, rfl⟩
                    have hq9 : W9.heap[wr.heap.size]? = some (.cells #[.int .i64 t.k, .string TX, .bool t.sp, .string t.g, .int .i64 t.f, .int .i64 t.t, .bool false, .slice sa sn sc] 26) := by rw [← hW9]; exact heap_alloc_new wr _
                    have HB10 : Hid (Below w8.heap.size w8 W9) := Lib.hid (hW9 ▸ (HB9.out.alloc HB9.out.size _).drew)
                    obtain ⟨e0, e1, e2, e3, e4, e5, e6, e7⟩ := cells8 hq9
                    rw [hW9]
                    obtain ⟨bt, hbt⟩ : ∃ x, wr.heap.size = x := ⟨_, rfl⟩
                    have hbl := row_lt hq9
                    rw [hbt] at e0 e1 e2 e3 e4 e5 e6 e7 hbl ⊢
                    have e9 := bcell ((Below.refl W9.heap.size W9).alloc (Nat.le_refl _) (.cells #[.int .u8 (97 + (i : Int))] 5)) e6 hbl
                    have hcv := hcv W9
                    clear hW9 hq9 hbt x0 x1 x2 x3 x4 x5 x6 x7 y0 g1 g2 g3 g4 g5 g6 g7 g8 g9 g10 g11
                    go_wp2
                    go_roundw
                    case rel => exact ⟨i + 1, by go_num, hlt, HB10.out.alloc HB10.out.size _⟩
                    case measure => simp [intOf]; omega
                  · have hW : sdW a b i = ([121, 97 + UInt8.ofNat (i - a + 1)], false, 1) := by
                      unfold sdW
                      rw [if_neg (by omega), if_neg (by omega), if_pos ⟨by omega, by omega⟩]
                    rw [hW] at tx td k0
                    simp only at tx td k0
                    rw [show ([121, 97 + UInt8.ofNat (i - a + 1)] : List UInt8).toArray = #[121, 97 + UInt8.ofNat (i - a + 1)] from rfl] at tx
                    obtain ⟨TX, hTX⟩ : ∃ T : ByteArray, ⟨#[121, 97 + UInt8.ofNat (i - a + 1)]⟩ = T := ⟨_, rfl⟩
                    rw [hTX] at tx
                    have hcat : ⟨#[121]⟩ ++ ⟨#[97 + UInt8.ofNat (i - a + 1)]⟩ = TX := hTX
                    have hcv := fun X : World => sd_conv X (i - a + 1) (by omega)
                    have v1 : IntKind.i64.wrap ((a : Int) - 1) = (a : Int) - 1 := IntWalk.i64_in _ (by omega)
                    have u1 : ((i : Int) == (a : Int) - 1) = false := by simp; omega
                    have u3 : ¬ (i : Int) < (a : Int) := by omega
                    have v4 : IntKind.i64.wrap ((i : Int) - (a : Int)) = (i : Int) - (a : Int) := IntWalk.i64_in _ (by omega)
                    obtain ⟨j, hj⟩ : ∃ j, i - a + 1 = j := ⟨_, rfl⟩
                    rw [hj] at hcat hcv
                    have v5 : IntKind.i64.wrap ((i : Int) - (a : Int) + 1) = (j : Int) := by rw [IntWalk.i64_in _ (by omega)]; omega
                    have hz : j < 11 := by omega
                    clear hj
                    clear hW hTX
                    obtain ⟨x0, x1, x2, x3, x4, x5, x6, x7⟩ := htok.next hb0 hg
                    have y0 := bcell hb0 k0 hf
                    rw [show i + 1 = 1 + i from Nat.add_comm _ _] at x0 x1 x2 x3 x4 x5 x6 x7 y0
                    have hiI : (i : Int) < (N : Int) := by omega
                    have g1 : (0 : Int) ≤ 1 + (i : Int) := by omega
                    have g2 : 1 + (i : Int) < ((N + 2 : Nat) : Int) := by omega
                    have g3 : IntKind.i64.wrap (1 + (i : Int)) = 1 + (i : Int) := IntWalk.i64_in _ (by omega)
                    have g4 : 1 + (i : Int) < (N : Int) + 2 := by omega
                    have g5 : g < wr.heap.size := Nat.lt_of_lt_of_le hg hb0.size
                    have g6 : f < wr.heap.size := Nat.lt_of_lt_of_le hf hb0.size
                    have g7 : g ≠ wr.heap.size := Nat.ne_of_lt g5
                    have g8 : f ≠ wr.heap.size := Nat.ne_of_lt g6
                    have g9 : wr.heap.size ≠ g := Nat.ne_of_gt g5
                    have g10 : wr.heap.size ≠ f := Nat.ne_of_gt g6
                    have g11 : (1 + (i : Int)).toNat = 1 + i := by omega
                    clear k0 htok hb0
                    go_wp2
                    go_region
                    obtain ⟨W9, hW9⟩ : ∃ X, (wr.alloc (.cells #[.int .i64 t.k, .string TX, .bool t.sp, .string t.g, .int .i64 t.f, .int .i64 t.t, .bool false, .slice sa sn sc] 26)).drew = X := ⟨_, rfl⟩
                    have hq9 : W9.heap[wr.heap.size]? = some (.cells #[.int .i64 t.k, .string TX, .bool t.sp, .string t.g, .int .i64 t.f, .int .i64 t.t, .bool false, .slice sa sn sc] 26) := by rw [← hW9]; exact heap_alloc_new wr _
                    have HB10 : Hid (Below w8.heap.size w8 W9) := Lib.hid (hW9 ▸ (HB9.out.alloc HB9.out.size _).drew)
                    obtain ⟨e0, e1, e2, e3, e4, e5, e6, e7⟩ := cells8 hq9
                    rw [hW9]
                    obtain ⟨bt, hbt⟩ : ∃ x, wr.heap.size = x := ⟨_, rfl⟩
                    have hbl := row_lt hq9
                    rw [hbt] at e0 e1 e2 e3 e4 e5 e6 e7 hbl ⊢
                    have e9 := bcell ((Below.refl W9.heap.size W9).alloc (Nat.le_refl _) (.cells #[.int .u8 (97 + (j : Int))] 5)) e6 hbl
                    have hcv := hcv W9
                    clear hW9 hq9 hbt x0 x1 x2 x3 x4 x5 x6 x7 y0 g1 g2 g3 g4 g5 g6 g7 g8 g9 g10 g11
                    go_wp2
                    go_roundw
                    case rel => exact ⟨i + 1, by go_num, hlt, HB10.out.alloc HB10.out.size _⟩
                    case measure => simp [intOf]; omega
              · have hiI : ¬ (i : Int) < (N : Int) := by omega
                have HB10 := Lib.hid (below_up HB8.out hb0)
                clear hb0
                go_wp2_with (go_at_call 8; (with_reducible refine (HA.out _).mono ?_); rintro e w9 ⟨rfl, hb⟩; have HB11 := Lib.hid (below_up HB10.out hb); clear hb)
                go_ret
                exact ⟨rfl, HB11.out⟩
          · go_wp2_with (first
              | (go_at_call 15; (with_reducible refine (M1.out _ _ _ _ _ _ _ HM4.out).mono ?_); rintro e w5 ⟨rfl, hb⟩; have HB5 := Lib.hid (below_up HB4.out hb); have HM5 := Lib.hid (HM4.out.over hb); clear hb)
              | (go_at_call 12; first
                  | ((with_reducible refine (X1.out _).mono ?_); rintro e w6 ⟨a6, n6, c6, rfl, hn, hx, hz, hb⟩; have HX6 := Lib.hid hx; have HZ6 := Lib.hid hz; have HB6 := Lib.hid (below_up HB5.out hb); have HM6 := Lib.hid (HM5.out.over hb); clear hb hn hx hz)
                  | ((with_reducible refine (Y1.out _).mono ?_); rintro e w7 ⟨a7, n7, c7, rfl, hn, hx, hz, hb⟩; have HR7 := Lib.hid (rowsX_two (E := 28) (HX6.out.over hb) hx HZ6.out hz); have HB7 := Lib.hid (below_up HB6.out hb); have HM7 := Lib.hid (HM6.out.over hb); clear hb hn hx hz))
              | (go_at_call 14; (with_reducible refine (B1.out _ _ _ _ _ _ _ _ (HM7.out.over ((Below.refl w7.heap.size w7).alloc (Nat.le_refl _) (_))) HR7.out).mono ?_); rintro e w8 hso; (obtain ⟨g, o, lc, f, fc, da, dc, rfl, hg, hf, l1, l2, l3, l4, c0, c1, hall, hb⟩ := HL3.out _ _ _ hso); have HB8 := Lib.hid (below_up HB7.out (below_up ((Below.refl w7.heap.size w7).alloc (Nat.le_refl _) (_)) hb)); have HALL := Lib.hid hall; unfold maxLen at l2 l4; clear hso hall hb))
            go_loopw [15] (fun iv wr => ∃ i : Nat, iv = .int .i64 (i : Int) ∧ i ≤ N ∧ Below w8.heap.size w8 wr) (fun iv _ => N - (intOf iv).toNat)
            case atStart => exact ⟨0, rfl, Nat.zero_le _, Below.refl _ _⟩
            case round =>
              obtain ⟨i, rfl, hi, hb0⟩ := hrel
              have HB9 := Lib.hid hb0
              by_cases hlt : i < N
              · obtain ⟨k0, t, sa, sn, sc, tx, td, htok⟩ := HALL.out i hlt
                have hW : sdW a b i = ([120, 97 + UInt8.ofNat i], false, 0) := by
                  unfold sdW
                  rw [if_neg (by omega), if_pos (by omega)]
                rw [hW] at tx td k0
                simp only at tx td k0
                rw [show ([120, 97 + UInt8.ofNat i] : List UInt8).toArray = #[120, 97 + UInt8.ofNat i] from rfl] at tx
                obtain ⟨TX, hTX⟩ : ∃ T : ByteArray, ⟨#[120, 97 + UInt8.ofNat i]⟩ = T := ⟨_, rfl⟩
                rw [hTX] at tx
                have hcat : ⟨#[120]⟩ ++ ⟨#[97 + UInt8.ofNat i]⟩ = TX := hTX
                have hcv := fun X : World => sd_conv X i (by omega)
                have u3 : (i : Int) < (a : Int) := by omega
                have hz : i < 11 := by omega
                clear hW hTX
                obtain ⟨x0, x1, x2, x3, x4, x5, x6, x7⟩ := htok.next hb0 hg
                have y0 := bcell hb0 k0 hf
                rw [show i + 1 = 1 + i from Nat.add_comm _ _] at x0 x1 x2 x3 x4 x5 x6 x7 y0
                have hiI : (i : Int) < (N : Int) := by omega
                have g1 : (0 : Int) ≤ 1 + (i : Int) := by omega
                have g2 : 1 + (i : Int) < ((N + 2 : Nat) : Int) := by omega
                have g3 : IntKind.i64.wrap (1 + (i : Int)) = 1 + (i : Int) := IntWalk.i64_in _ (by omega)
                have g4 : 1 + (i : Int) < (N : Int) + 2 := by omega
                have g5 : g < wr.heap.size := Nat.lt_of_lt_of_le hg hb0.size
                have g6 : f < wr.heap.size := Nat.lt_of_lt_of_le hf hb0.size
                have g7 : g ≠ wr.heap.size := Nat.ne_of_lt g5
                have g8 : f ≠ wr.heap.size := Nat.ne_of_lt g6
                have g9 : wr.heap.size ≠ g := Nat.ne_of_gt g5
                have g10 : wr.heap.size ≠ f := Nat.ne_of_gt g6
                have g11 : (1 + (i : Int)).toNat = 1 + i := by omega
                clear k0 htok hb0
                go_wp2
                go_region
                obtain ⟨W9, hW9⟩ : ∃ X, (wr.alloc (.cells #[.int .i64 t.k, .string TX, .bool t.sp, .string t.g, .int .i64 t.f, .int .i64 t.t, .bool false, .slice sa sn sc] 26)).drew = X := ⟨_, rfl⟩
                have hq9 : W9.heap[wr.heap.size]? = some (.cells #[.int .i64 t.k, .string TX, .bool t.sp, .string t.g, .int .i64 t.f, .int .i64 t.t, .bool false, .slice sa sn sc] 26) := by rw [← hW9]; exact heap_alloc_new wr _
                have HB10 : Hid (Below w8.heap.size w8 W9) := Lib.hid (hW9 ▸ (HB9.out.alloc HB9.out.size _).drew)
                obtain ⟨e0, e1, e2, e3, e4, e5, e6, e7⟩ := cells8 hq9
                rw [hW9]
                obtain ⟨bt, hbt⟩ : ∃ x, wr.heap.size = x := ⟨_, rfl⟩
                have hbl := row_lt hq9
                rw [hbt] at e0 e1 e2 e3 e4 e5 e6 e7 hbl ⊢
                have e9 := bcell ((Below.refl W9.heap.size W9).alloc (Nat.le_refl _) (.cells #[.int .u8 (97 + (i : Int))] 5)) e6 hbl
                have hcv := hcv W9
                clear hW9 hq9 hbt x0 x1 x2 x3 x4 x5 x6 x7 y0 g1 g2 g3 g4 g5 g6 g7 g8 g9 g10 g11
                go_wp2
                go_roundw
                case rel => exact ⟨i + 1, by go_num, hlt, HB10.out.alloc HB10.out.size _⟩
                case measure => simp [intOf]; omega
              · have hiI : ¬ (i : Int) < (N : Int) := by omega
                have HB10 := Lib.hid (below_up HB8.out hb0)
                clear hb0
                go_wp2_with (go_at_call 8; (with_reducible refine (HA.out _).mono ?_); rintro e w9 ⟨rfl, hb⟩; have HB11 := Lib.hid (below_up HB10.out hb); clear hb)
                go_ret
                exact ⟨rfl, HB11.out⟩
          · go_wp2_with (first
              | (go_at_call 15; (with_reducible refine (M1.out _ _ _ _ _ _ _ HM4.out).mono ?_); rintro e w5 ⟨rfl, hb⟩; have HB5 := Lib.hid (below_up HB4.out hb); have HM5 := Lib.hid (HM4.out.over hb); clear hb)
              | (go_at_call 12; first
                  | ((with_reducible refine (X1.out _).mono ?_); rintro e w6 ⟨a6, n6, c6, rfl, hn, hx, hz, hb⟩; have HX6 := Lib.hid hx; have HZ6 := Lib.hid hz; have HB6 := Lib.hid (below_up HB5.out hb); have HM6 := Lib.hid (HM5.out.over hb); clear hb hn hx hz)
                  | ((with_reducible refine (Y1.out _).mono ?_); rintro e w7 ⟨a7, n7, c7, rfl, hn, hx, hz, hb⟩; have HR7 := Lib.hid (rowsX_two (E := 28) (HX6.out.over hb) hx HZ6.out hz); have HB7 := Lib.hid (below_up HB6.out hb); have HM7 := Lib.hid (HM6.out.over hb); clear hb hn hx hz))
              | (go_at_call 14; (with_reducible refine (B1.out _ _ _ _ _ _ _ _ (HM7.out.over ((Below.refl w7.heap.size w7).alloc (Nat.le_refl _) (_))) HR7.out).mono ?_); rintro e w8 hso; (obtain ⟨g, o, lc, f, fc, da, dc, rfl, hg, hf, l1, l2, l3, l4, c0, c1, hall, hb⟩ := HL3.out _ _ _ hso); have HB8 := Lib.hid (below_up HB7.out (below_up ((Below.refl w7.heap.size w7).alloc (Nat.le_refl _) (_)) hb)); have HALL := Lib.hid hall; unfold maxLen at l2 l4; clear hso hall hb))
            go_loopw [15] (fun iv wr => ∃ i : Nat, iv = .int .i64 (i : Int) ∧ i ≤ N ∧ Below w8.heap.size w8 wr) (fun iv _ => N - (intOf iv).toNat)
            case atStart => exact ⟨0, rfl, Nat.zero_le _, Below.refl _ _⟩
            case round =>
              obtain ⟨i, rfl, hi, hb0⟩ := hrel
              have HB9 := Lib.hid hb0
              by_cases hlt : i < N
              · obtain ⟨k0, t, sa, sn, sc, tx, td, htok⟩ := HALL.out i hlt
                have hW : sdW a b i = ([121, 97 + UInt8.ofNat (i - a)], false, 1) := by
                  unfold sdW
                  rw [if_neg (by omega), if_neg (by omega), if_neg (by omega)]
                rw [hW] at tx td k0
                simp only at tx td k0
                rw [show ([121, 97 + UInt8.ofNat (i - a)] : List UInt8).toArray = #[121, 97 + UInt8.ofNat (i - a)] from rfl] at tx
                obtain ⟨TX, hTX⟩ : ∃ T : ByteArray, ⟨#[121, 97 + UInt8.ofNat (i - a)]⟩ = T := ⟨_, rfl⟩
                rw [hTX] at tx
                have hcat : ⟨#[121]⟩ ++ ⟨#[97 + UInt8.ofNat (i - a)]⟩ = TX := hTX
                have hcv := fun X : World => sd_conv X (i - a) (by omega)
                have u3 : ¬ (i : Int) < (a : Int) := by omega
                obtain ⟨j, hj⟩ : ∃ j, i - a = j := ⟨_, rfl⟩
                rw [hj] at hcat hcv
                have v4 : IntKind.i64.wrap ((i : Int) - (a : Int)) = (j : Int) := by rw [IntWalk.i64_in _ (by omega)]; omega
                have hz : j < 11 := by omega
                clear hj
                clear hW hTX
                obtain ⟨x0, x1, x2, x3, x4, x5, x6, x7⟩ := htok.next hb0 hg
                have y0 := bcell hb0 k0 hf
                rw [show i + 1 = 1 + i from Nat.add_comm _ _] at x0 x1 x2 x3 x4 x5 x6 x7 y0
                have hiI : (i : Int) < (N : Int) := by omega
                have g1 : (0 : Int) ≤ 1 + (i : Int) := by omega
                have g2 : 1 + (i : Int) < ((N + 2 : Nat) : Int) := by omega
                have g3 : IntKind.i64.wrap (1 + (i : Int)) = 1 + (i : Int) := IntWalk.i64_in _ (by omega)
                have g4 : 1 + (i : Int) < (N : Int) + 2 := by omega
                have g5 : g < wr.heap.size := Nat.lt_of_lt_of_le hg hb0.size
                have g6 : f < wr.heap.size := Nat.lt_of_lt_of_le hf hb0.size
                have g7 : g ≠ wr.heap.size := Nat.ne_of_lt g5
                have g8 : f ≠ wr.heap.size := Nat.ne_of_lt g6
                have g9 : wr.heap.size ≠ g := Nat.ne_of_gt g5
                have g10 : wr.heap.size ≠ f := Nat.ne_of_gt g6
                have g11 : (1 + (i : Int)).toNat = 1 + i := by omega
                clear k0 htok hb0
                go_wp2
                go_region
                obtain ⟨W9, hW9⟩ : ∃ X, (wr.alloc (.cells #[.int .i64 t.k, .string TX, .bool t.sp, .string t.g, .int .i64 t.f, .int .i64 t.t, .bool false, .slice sa sn sc] 26)).drew = X := ⟨_, rfl⟩
                have hq9 : W9.heap[wr.heap.size]? = some (.cells #[.int .i64 t.k, .string TX, .bool t.sp, .string t.g, .int .i64 t.f, .int .i64 t.t, .bool false, .slice sa sn sc] 26) := by rw [← hW9]; exact heap_alloc_new wr _
                have HB10 : Hid (Below w8.heap.size w8 W9) := Lib.hid (hW9 ▸ (HB9.out.alloc HB9.out.size _).drew)
                obtain ⟨e0, e1, e2, e3, e4, e5, e6, e7⟩ := cells8 hq9
                rw [hW9]
                obtain ⟨bt, hbt⟩ : ∃ x, wr.heap.size = x := ⟨_, rfl⟩
                have hbl := row_lt hq9
                rw [hbt] at e0 e1 e2 e3 e4 e5 e6 e7 hbl ⊢
                have e9 := bcell ((Below.refl W9.heap.size W9).alloc (Nat.le_refl _) (.cells #[.int .u8 (97 + (j : Int))] 5)) e6 hbl
                have hcv := hcv W9
                clear hW9 hq9 hbt x0 x1 x2 x3 x4 x5 x6 x7 y0 g1 g2 g3 g4 g5 g6 g7 g8 g9 g10 g11
                go_wp2
                go_roundw
                case rel => exact ⟨i + 1, by go_num, hlt, HB10.out.alloc HB10.out.size _⟩
                case measure => simp [intOf]; omega
              · have hiI : ¬ (i : Int) < (N : Int) := by omega
                have HB10 := Lib.hid (below_up HB8.out hb0)
                clear hb0
                go_wp2_with (go_at_call 8; (with_reducible refine (HA.out _).mono ?_); rintro e w9 ⟨rfl, hb⟩; have HB11 := Lib.hid (below_up HB10.out hb); clear hb)
                go_ret
                exact ⟨rfl, HB11.out⟩

theorem sides_law (a b : Int) (W : World) : Calls Try.prog 6 #[.int .i64 a, .int .i64 b] W (TruePost W) := by
  by_cases h : a < 0 ∨ 10 < a ∨ b < 0 ∨ 10 < b
  · exact sides_out a b W h
  · obtain ⟨m, rfl⟩ : ∃ m : Nat, a = (m : Int) := ⟨a.toNat, by omega⟩
    obtain ⟨n, rfl⟩ : ∃ n : Nat, b = (n : Int) := ⟨b.toNat, by omega⟩
    exact sides_in m n W (by omega) (by omega)

end Go.Proofs.Ytobplffailbkbaa
