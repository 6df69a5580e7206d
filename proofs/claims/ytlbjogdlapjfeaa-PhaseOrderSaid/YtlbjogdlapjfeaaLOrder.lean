/-
  PhaseOrder, walked.
-/
import Derived.Test.YtlbjogdlapjfeaaLParts
import Derived.Test.YtlbjogdlapjfeaaOrderL
namespace Go.Proofs.Ytlbjogdlapjfeaa
open Go.RowKit

def PlRel (l : List UInt8) (p i : Value) : Prop := ∃ (k : Nat) (b : Bool), i = .int .i64 (k : Int) ∧ k ≤ l.length ∧ p = .bool b ∧ plB l k = b

theorem plRel_go {l : List UInt8} {k : Nat} {b c : Bool} (hk : k < l.length) (h : plB l k = b) (hc : (b && (decide (l.getD k 0 ≠ 63) && decide (l.getD k 0 ≠ 92))) = c) : PlRel l (.bool c) (.int .i64 ((k : Int) + 1)) :=
  ⟨k + 1, c, by go_num, hk, rfl, by rw [plB_step hk, h, hc]⟩

def OrdRel (n : Nat) (L : List Rn) (at_ i : Value) (w0 w : World) : Prop := ∃ (k v m : Nat), i = .int .i64 (k : Int) ∧ k ≤ L.length ∧ at_ = .int .i64 (v : Int) ∧ Ord n v (L.drop k) ∧ w = w0.drewN m

theorem order_rest {s : ByteArray} (h : plB s.data.toList s.size = true) (w : World) (hs : s.size ≤ 100000) : Calls Try.prog 13 #[.string s, .int .i64 0, .int .i64 (s.size : Int)] w (StrPost w s) := by
  have hl := len_byte s
  refine back_str rfl ?_ hs (by omega) w
  rw [← hl] at h ⊢
  rw [back_plain h]

set_option maxRecDepth 100000 in
set_option maxHeartbeats 1600000 in
theorem law_order_some (s : ByteArray) (w : World) (hl1 : s.size ≤ 4000) (h0 : 0 < s.size) : Calls Try.prog 4 #[.string s] w (AwakePost w) := by
  have hl2 : s.size ≤ 100000 := by omega
  have hl3 : ¬ (4000 : Int) < (s.size : Int) := by omega
  have hlen := len_byte s
  have HL := Lib.hid hlen
  have hne := empty_no h0
  have hcc := charsL_count s.data.toList
  obtain ⟨m, hm⟩ : ∃ m, (charsL s.data.toList).length = m + 1 := ⟨(charsL s.data.toList).length - 1, by have := hcc.2 (list_ne h0); omega⟩
  have hmb : m ≤ s.size := by have := hcc.1; omega
  have HM := Lib.hid hm
  have hm0 : ((m : Int) + 1 == 0) = false := by simp; omega
  clear hcc hlen hm
  go_enter Try.func4, Try.ntmps4
  go_wp2_with (go_at_call 11; (with_reducible refine (chars_any s _ hl2).mono ?_); rintro e w1 ⟨a1, n1, cap1, hn1, rfl, u1⟩; obtain rfl : n1 = m + 1 := hn1.trans HM.out; have U1 := Lib.hid u1; clear u1 hn1)
  go_loop [5, 6] (fun p i => PlRel s.data.toList p i) (fun _ i => s.size - (intOf i).toNat)
  case atStart => exact ⟨0, true, rfl, Nat.zero_le _, rfl, rfl⟩
  case round =>
    obtain ⟨k, b, rfl, hk, rfl, hb⟩ := hrel
    rw [HL.out] at hk
    have HB := Lib.hid hb
    clear hb
    by_cases hlt : k < s.size
    · have hki : (k : Int) < (s.size : Int) := by omega
      have hk2 : k < s.data.toList.length := by rw [HL.out]; exact hlt
      have hg := get_byte s k hlt
      have HG := Lib.hid hg
      clear hg
      cases b with
      | false =>
        go_wp2
        go_round
        case rel => exact plRel_go hk2 HB.out rfl
        case measure => simp [intOf]; omega
      | true =>
        by_cases ha : s[k] = 63
        · have ea : (((s[k].toNat : Nat) : Int) != 63) = false := by rw [ha]; rfl
          have HA := Lib.hid ha
          clear ha
          go_wp2
          go_round
          case rel => exact plRel_go hk2 HB.out (by rw [HG.out, HA.out]; rfl)
          case measure => simp [intOf]; omega
        · have ea : (((s[k].toNat : Nat) : Int) != 63) = true := by simpa using byte_is (x := 63) (by omega) ha
          have HA := Lib.hid ha
          clear ha
          by_cases hc : s[k] = 92
          · have ec : (((s[k].toNat : Nat) : Int) != 92) = false := by rw [hc]; rfl
            have HC := Lib.hid hc
            clear hc
            go_wp2
            go_round
            case rel => exact plRel_go hk2 HB.out (by rw [HG.out, HC.out]; rfl)
            case measure => simp [intOf]; omega
          · have ec : (((s[k].toNat : Nat) : Int) != 92) = true := by simpa using byte_is (x := 92) (by omega) hc
            have HC := Lib.hid hc
            clear hc
            go_wp2
            go_round
            case rel => exact plRel_go hk2 HB.out (by rw [HG.out]; simp [HA.out, HC.out])
            case measure => simp [intOf]; omega
    · have hki : ¬ (k : Int) < (s.size : Int) := by omega
      obtain rfl : k = s.size := by omega
      have hnl : ¬ ((m : Int) + 1) > (s.size : Int) + 1 := by omega
      clear hki hk
      have HN := Lib.hid (show (charsL s.data.toList).length = m + 1 from HM.out)
      have HO := Lib.hid (charsL_ord s.data.toList)
      obtain ⟨C, hC⟩ : ∃ C, charsL s.data.toList = C := ⟨_, rfl⟩
      have u1 := U1.out
      have ho := HO.out
      have hn := HN.out
      rw [hC] at u1 ho hn
      rw [HL.out] at ho
      obtain ⟨a', c', hv, hc1, hc2, hcell⟩ := crow_cells u1
      simp only [Value.slice.injEq] at hv
      obtain ⟨rfl, -, rfl⟩ := hv
      have b1 := u1.2
      have HCC := Lib.hid hC
      have HCELL := Lib.hid hcell
      have HO2 := Lib.hid ho
      have HN2 := Lib.hid hn
      have B1 := Lib.hid b1
      rw [hn] at hc1
      unfold maxLen at hc2
      clear hC u1 ho hn hcell HO b1
      go_wp2
      go_loopw [4, 7] (fun a i w' => OrdRel s.size C a i w1 w') (fun _ i _ => m + 1 - (intOf i).toNat)
      case atStart => exact ⟨0, 0, 0, rfl, Nat.zero_le _, rfl, HO2.out, rfl⟩
      case round =>
        obtain ⟨k, v, q, rfl, hk, rfl, hord, rfl⟩ := hrel
        rw [HN2.out] at hk
        by_cases hlt : k < m + 1
        · have hki : (k : Int) < (m : Int) + 1 := by omega
          obtain ⟨r, hr⟩ : ∃ r, C[k]? = some r := ⟨_, List.getElem?_eq_getElem (by rw [HN2.out]; exact hlt)⟩
          obtain ⟨o1, o2, o3, o4, o5⟩ := hord.step hr
          have HO5 := Lib.hid o5
          obtain ⟨g, rfl, hg, d0, d1, d2⟩ := HCELL.out k r hr
          have HR := Lib.hid hr
          have g1 : decide (r.f < v) = false := by simp; omega
          have g2 : decide (r.t < r.f) = false := by simp; omega
          have g3 : decide (s.size < r.t) = false := by simp; omega
          have g4 : decide ((3 : Int) < (r.t : Int) - (r.f : Int)) = false := by simp; omega
          clear hord o5 hr
          cases b with
          | false =>
            go_wp2
            go_quiet (fail)
            go_wp2
            go_quiet (fail)
            go_wp2
            go_roundw
            case rel => exact ⟨k + 1, _, _, by go_num, by rw [HN2.out]; omega, rfl, HO5.out, by first | rfl | (rw [World.drewN_drewN])⟩
            case measure => simp [intOf]; omega
          | true =>
            by_cases hks : k < s.size
            · have hks' : (k : Int) < (s.size : Int) := by omega
              have hr := HR.out
              have hpl := HB.out
              rw [← HCC.out, charsL_plain (by rw [HL.out]; exact hpl) (by rw [HL.out]; exact hks), get_byte s k hks] at hr
              simp only [Option.some.injEq] at hr
              obtain ⟨x, hx⟩ : ∃ x : Int, ((r.c.toNat : Nat) : Int) = x := ⟨_, rfl⟩
              obtain ⟨y, hy⟩ : ∃ y : Int, (r.f : Int) = y := ⟨_, rfl⟩
              obtain ⟨z, hz⟩ : ∃ z : Int, (r.t : Int) = z := ⟨_, rfl⟩
              have e1 : (x != ((s[k].toNat : Nat) : Int)) = false := by rw [← hx, ← hr]; simp
              have e2 : (y != (k : Int)) = false := by rw [← hy, ← hr]; simp
              have e3 : (z != (k : Int) + 1) = false := by rw [← hz, ← hr]; simp
              have f1 : decide (y < (v : Int)) = false := by simp; omega
              have f2 : decide (z < y) = false := by simp; omega
              have f3 : decide ((s.size : Int) < z) = false := by simp; omega
              have f4 : decide ((3 : Int) < z - y) = false := by simp; omega
              have b1 : 0 ≤ y := by omega
              have b2 : y ≤ 5000 := by omega
              have b3 : 0 ≤ z := by omega
              have b4 : z ≤ 5000 := by omega
              rw [hx] at d0
              rw [hy] at d1
              rw [hz] at d2
              have HZ := Lib.hid hz
              clear hr hpl hx hy hz g1 g2 g3 g4
              go_wp2
              go_quiet (fail)
              go_wp2
              go_quiet (fail)
              go_wp2
              go_roundw
              case rel => exact ⟨k + 1, r.t, _, by go_num, by rw [HN2.out]; omega, by rw [HZ.out], HO5.out, by first | rfl | (rw [World.drewN_drewN])⟩
              case measure => simp [intOf]; omega
            · have hks' : ¬ (k : Int) < (s.size : Int) := by omega
              go_wp2
              go_quiet (fail)
              go_wp2
              go_quiet (fail)
              go_wp2
              go_roundw
              case rel => exact ⟨k + 1, _, _, by go_num, by rw [HN2.out]; omega, rfl, HO5.out, by first | rfl | (rw [World.drewN_drewN])⟩
              case measure => simp [intOf]; omega
        · have hki : ¬ (k : Int) < (m : Int) + 1 := by omega
          obtain ⟨r, hr⟩ : ∃ r, C[m]? = some r := ⟨_, List.getElem?_eq_getElem (by rw [HN2.out]; omega)⟩
          obtain ⟨g, rfl, hg, d0, -, -⟩ := HCELL.out m r hr
          have hc : r.c = 10 := by
            rw [← HCC.out] at hr
            exact charsL_last HN.out hr
          rw [hc] at d0
          have d0' : w1.cell? ⟨g, m * 3, none⟩ = some (.int .u8 10) := d0
          have BD := Lib.hid (B1.out.trans ((Below.of_drews w1 q).mono B1.out.size))
          clear d0 hr hc hord
          cases b with
          | false =>
            go_wp2_with (go_at_call 7; (with_reducible refine (awake_any _).mono ?_); rintro e w6 ⟨rfl, b6⟩)
            go_ret
            exact ⟨rfl, BD.out.trans (b6.mono BD.out.size)⟩
          | true =>
            have HOR := Lib.hid (order_rest HB.out)
            go_wp2_with (first
              | (go_at_call 13; (with_reducible refine (HOR.out _ hl2).mono ?_); rintro e w5 ⟨rfl, b5⟩; have B5 := Lib.hid (BD.out.trans (b5.mono BD.out.size)); clear b5)
              | (go_at_call 7; (with_reducible refine (awake_any _).mono ?_); rintro e w6 ⟨rfl, b6⟩))
            go_ret
            exact ⟨rfl, B5.out.trans (b6.mono B5.out.size)⟩

set_option maxRecDepth 100000 in
set_option maxHeartbeats 1600000 in
theorem law_order (s : ByteArray) (w : World) (hs : s.size ≤ maxLen) : Calls Try.prog 4 #[.string s] w (AwakePost w) := by
  unfold maxLen at hs
  by_cases hl1 : s.size ≤ 4000
  · by_cases h0 : 0 < s.size
    · exact law_order_some s w hl1 h0
    · have hz : s = ⟨#[]⟩ := by
        apply ByteArray.ext
        apply Array.toList_inj.1
        rw [list_nil h0]
      subst hz
      clear h0 hl1 hs
      go_enter Try.func4, Try.ntmps4
      go_wp2_with (go_at_call 11; (with_reducible refine (chars_any _ _ (by decide)).mono ?_); rintro e w1 ⟨a1, n1, cap1, hn1, rfl, u1⟩; obtain rfl : n1 = 0 := hn1; have U1 := Lib.hid u1; clear u1)
      go_loop [5, 6] (fun p i => p = .bool true ∧ i = .int .i64 0) (fun _ _ => 0)
      case atStart => exact ⟨rfl, rfl⟩
      case round =>
        obtain ⟨rfl, rfl⟩ := hrel
        go_wp2
        go_loop [4, 7] (fun a i => a = .int .i64 0 ∧ i = .int .i64 0) (fun _ _ => 0)
        case atStart => exact ⟨rfl, rfl⟩
        case round =>
          obtain ⟨rfl, rfl⟩ := hrel
          have hor : ∀ w, Calls Try.prog 13 #[.string ⟨#[]⟩, .int .i64 0, .int .i64 0] w (StrPost w ⟨#[]⟩) := fun w => order_rest (s := ⟨#[]⟩) rfl w (by decide)
          have HOR := Lib.hid hor
          clear hor
          go_wp2_with (first
            | (go_at_call 13; (with_reducible refine (HOR.out _).mono ?_); rintro e w5 ⟨rfl, b5⟩; have B5 := Lib.hid (U1.out.2.trans (b5.mono U1.out.2.size)); clear b5)
            | (go_at_call 7; (with_reducible refine (awake_any _).mono ?_); rintro e w6 ⟨rfl, b6⟩))
          go_ret
          exact ⟨rfl, B5.out.trans (b6.mono B5.out.size)⟩
  · have hl3 : ¬ (s.size : Int) ≤ 4000 := by omega
    go_enter Try.func4, Try.ntmps4
    go_wp2_with (go_at_call 7; (with_reducible refine (awake_any _).mono ?_); rintro e w6 ⟨rfl, b6⟩)
    go_ret
    exact ⟨rfl, b6⟩

end Go.Proofs.Ytlbjogdlapjfeaa
