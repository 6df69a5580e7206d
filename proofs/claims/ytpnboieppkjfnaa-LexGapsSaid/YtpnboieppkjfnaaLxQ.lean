/-
  A quote's end, of the project, walked.
-/
import Derived.Test.YtpnboieppkjfnaaLxM
namespace Go.Proofs.Ytpnboieppkjfnaa
open Go.RowKit

set_option maxRecDepth 100000 in
set_option maxHeartbeats 3200000 in
theorem closed0_any {g : Nat} {c : WC} {w : World} (h : WAt g c w) (p : Nat) (hs : c.ch.size ≤ 1000000) (hN : Nl c.ch.data.toList) (hip : c.i ≤ p) (hq : c.ch.data.toList.getD p 0 = 34) (hw : ∀ j, c.i ≤ j → j < p → c.ch.data.toList.getD j 0 ≠ 34) (hu0 : Un c.ch.data.toList c.i 34 c.u0) (hu1 : Un c.ch.data.toList c.i 39 c.u1) :
    Calls Try.prog 58 #[.pointer (some ⟨g, 0, none⟩), .int .i64 (p : Int), .int .i64 0] w (closedPost g c (qEnd c.ch.data.toList 34 p) w) := by
  have hp : p < c.ch.size := by
    have := getD_lt (l := c.ch.data.toList) (i := p) (by rw [hq]; decide)
    rw [len_byte] at this
    exact this
  have c3 := h.k3
  have cu := h.k12
  have fu := h.free 12
  have HA := Lib.hid h
  have HN := Lib.hid hN
  have HQ := Lib.hid hq
  have HW := Lib.hid hw
  have HU0 := Lib.hid hu0
  have HU1 := Lib.hid hu1
  have HLN := Lib.hid (len_byte c.ch)
  clear h hN hq hw hu0 hu1
  have hpi : (p : Int) < (c.ch.size : Int) := by omega
  have hp0 : (0 : Int) ≤ (p : Int) := by omega
  by_cases hlt : p < c.u0
  · have hlti : (p : Int) < (c.u0 : Int) := by omega
    go_enter Try.func58, Try.ntmps58
    go_wp2
    go_ret
    rw [(HU0.out).none hip hlt HQ.out]
    exact ⟨rfl, c.u0, c.u1, Step.refl HA.out, HU0.out, HU1.out⟩
  · have hlti : ¬ (p : Int) < (c.u0 : Int) := by omega
    have HGP := Lib.hid (show c.ch[p] = 34 from by rw [← get_byte c.ch p hp]; exact HQ.out)
    have hbp : ((c.ch[p].toNat : Nat) : Int) = 34 := by rw [HGP.out]; rfl
    go_enter Try.func58, Try.ntmps58
    go_wp2
    go_loopw [7, 8] (fun t i w' => ∃ (tk : Bool) (k n : Nat), t = .bool tk ∧ i = .int .i64 (k : Int) ∧ Past c.ch.data.toList 34 p k tk ∧ w' = w.drewN n) (fun _ i _ => c.ch.size - (intOf i).toNat)
    case atStart => exact ⟨false, p + 1, 0, rfl, by go_num, Past.start HN.out (by rw [HLN.out]; exact hp) HQ.out (by decide), rfl⟩
    case round =>
      obtain ⟨tk, k, n, rfl, rfl, hpast, hwr⟩ := hrel
      have hk : k < c.ch.size := by have := hpast.2.1; rw [HLN.out] at this; exact this
      have hki : (k : Int) < (c.ch.size : Int) := by omega
      have hk0 : (0 : Int) ≤ (k : Int) := by omega
      have c3 : wr.cell? ⟨g, 3, none⟩ = some (.string c.ch) := by rw [hwr]; exact c3
      have fu : wr.frozen? ⟨g, 12, none⟩ = false := by rw [hwr]; exact fu
      have cu : wr.cell? ⟨g, 12, none⟩ = some (.int .i64 (c.u0 : Int)) := by rw [hwr]; exact cu
      have HP := Lib.hid hpast
      have HWR := Lib.hid hwr
      have HG := Lib.hid (get_byte c.ch k hk)
      clear hpast hwr
      by_cases h10 : c.ch[k] = 10
      · have hb : (((c.ch[k].toNat : Nat) : Int) == 10) = true := by rw [h10]; rfl
        have hb2 : (((c.ch[k].toNat : Nat) : Int) != 10) = false := by rw [h10]; rfl
        have HX := Lib.hid (HP.out.no (by rw [HG.out]; exact h10))
        clear h10
        go_wp2
        go_ret
        rw [HX.out.1]
        refine ⟨rfl, k, c.u1, ?_, (HX.out.2).low HW.out, HU1.out⟩
        rw [HWR.out]
        exact ((Step.refl HA.out).drewN n).set 12 _ _ rfl
      · have hb : (((c.ch[k].toNat : Nat) : Int) == 10) = false := byte_neB (n := 10) (by omega) h10
        have hb2 : (((c.ch[k].toNat : Nat) : Int) != 10) = true := by rw [bne, hb]; rfl
        have H10 := Lib.hid (show c.ch.data.toList.getD k 0 ≠ 10 from by rw [HG.out]; exact h10)
        clear h10
        cases tk with
        | true =>
          go_wp2
          go_roundw
          case rel => exact ⟨false, k + 1, n, rfl, by go_num, HP.out.taken HN.out H10.out, HWR.out⟩
          case measure => simp [intOf]; omega
        | false =>
          by_cases h92 : c.ch[k] = 92
          · have hb3 : (((c.ch[k].toNat : Nat) : Int) == 92) = true := by rw [h92]; rfl
            have H92 := Lib.hid (show c.ch.data.toList.getD k 0 = 92 from by rw [HG.out]; exact h92)
            clear h92
            go_wp2
            go_roundw
            case rel => exact ⟨true, k + 1, n, rfl, by go_num, HP.out.slash HN.out H92.out (by decide), HWR.out⟩
            case measure => simp [intOf]; omega
          · have hb3 : (((c.ch[k].toNat : Nat) : Int) == 92) = false := byte_neB (n := 92) (by omega) h92
            have H92 := Lib.hid (show c.ch.data.toList.getD k 0 ≠ 92 from by rw [HG.out]; exact h92)
            clear h92
            by_cases hq : c.ch[k] = 34
            · have hb4 : (((c.ch[k].toNat : Nat) : Int) == 34) = true := by rw [hq]; rfl
              have HX := Lib.hid (HP.out.found H10.out H92.out (by rw [HG.out]; exact hq))
              clear hq
              go_wp2
              go_quiet (fail)
              go_wp2
              go_ret
              rw [HX.out]
              refine ⟨ret_nat rfl, c.u0, c.u1, ?_, HU0.out, HU1.out⟩
              rw [HWR.out]
              exact ((Step.refl HA.out).drewN n).drewN _
            · have hb4 : (((c.ch[k].toNat : Nat) : Int) == 34) = false := byte_neB (n := 34) (by omega) hq
              have HX := Lib.hid (show c.ch.data.toList.getD k 0 ≠ 34 from by rw [HG.out]; exact hq)
              clear hq
              go_wp2
              go_quiet (fail)
              go_wp2
              go_roundw
              case rel => exact ⟨false, k + 1, _, rfl, by go_num, HP.out.other HN.out H10.out H92.out HX.out, by rw [HWR.out, World.drewN_drewN]⟩
              case measure => simp [intOf]; omega

set_option maxRecDepth 100000 in
set_option maxHeartbeats 3200000 in
theorem closed1_any {g : Nat} {c : WC} {w : World} (h : WAt g c w) (p : Nat) (hs : c.ch.size ≤ 1000000) (hN : Nl c.ch.data.toList) (hip : c.i ≤ p) (hq : c.ch.data.toList.getD p 0 = 39) (hw : ∀ j, c.i ≤ j → j < p → c.ch.data.toList.getD j 0 ≠ 39) (hu0 : Un c.ch.data.toList c.i 34 c.u0) (hu1 : Un c.ch.data.toList c.i 39 c.u1) :
    Calls Try.prog 58 #[.pointer (some ⟨g, 0, none⟩), .int .i64 (p : Int), .int .i64 1] w (closedPost g c (qEnd c.ch.data.toList 39 p) w) := by
  have hp : p < c.ch.size := by
    have := getD_lt (l := c.ch.data.toList) (i := p) (by rw [hq]; decide)
    rw [len_byte] at this
    exact this
  have c3 := h.k3
  have cu := h.k13
  have fu := h.free 13
  have HA := Lib.hid h
  have HN := Lib.hid hN
  have HQ := Lib.hid hq
  have HW := Lib.hid hw
  have HU0 := Lib.hid hu0
  have HU1 := Lib.hid hu1
  have HLN := Lib.hid (len_byte c.ch)
  clear h hN hq hw hu0 hu1
  have hpi : (p : Int) < (c.ch.size : Int) := by omega
  have hp0 : (0 : Int) ≤ (p : Int) := by omega
  by_cases hlt : p < c.u1
  · have hlti : (p : Int) < (c.u1 : Int) := by omega
    go_enter Try.func58, Try.ntmps58
    go_wp2
    go_ret
    rw [(HU1.out).none hip hlt HQ.out]
    exact ⟨rfl, c.u0, c.u1, Step.refl HA.out, HU0.out, HU1.out⟩
  · have hlti : ¬ (p : Int) < (c.u1 : Int) := by omega
    have HGP := Lib.hid (show c.ch[p] = 39 from by rw [← get_byte c.ch p hp]; exact HQ.out)
    have hbp : ((c.ch[p].toNat : Nat) : Int) = 39 := by rw [HGP.out]; rfl
    go_enter Try.func58, Try.ntmps58
    go_wp2
    go_loopw [7, 8] (fun t i w' => ∃ (tk : Bool) (k n : Nat), t = .bool tk ∧ i = .int .i64 (k : Int) ∧ Past c.ch.data.toList 39 p k tk ∧ w' = w.drewN n) (fun _ i _ => c.ch.size - (intOf i).toNat)
    case atStart => exact ⟨false, p + 1, 0, rfl, by go_num, Past.start HN.out (by rw [HLN.out]; exact hp) HQ.out (by decide), rfl⟩
    case round =>
      obtain ⟨tk, k, n, rfl, rfl, hpast, hwr⟩ := hrel
      have hk : k < c.ch.size := by have := hpast.2.1; rw [HLN.out] at this; exact this
      have hki : (k : Int) < (c.ch.size : Int) := by omega
      have hk0 : (0 : Int) ≤ (k : Int) := by omega
      have c3 : wr.cell? ⟨g, 3, none⟩ = some (.string c.ch) := by rw [hwr]; exact c3
      have fu : wr.frozen? ⟨g, 13, none⟩ = false := by rw [hwr]; exact fu
      have cu : wr.cell? ⟨g, 13, none⟩ = some (.int .i64 (c.u1 : Int)) := by rw [hwr]; exact cu
      have HP := Lib.hid hpast
      have HWR := Lib.hid hwr
      have HG := Lib.hid (get_byte c.ch k hk)
      clear hpast hwr
      by_cases h10 : c.ch[k] = 10
      · have hb : (((c.ch[k].toNat : Nat) : Int) == 10) = true := by rw [h10]; rfl
        have hb2 : (((c.ch[k].toNat : Nat) : Int) != 10) = false := by rw [h10]; rfl
        have HX := Lib.hid (HP.out.no (by rw [HG.out]; exact h10))
        clear h10
        go_wp2
        go_ret
        rw [HX.out.1]
        refine ⟨rfl, c.u0, k, ?_, HU0.out, (HX.out.2).low HW.out⟩
        rw [HWR.out]
        exact ((Step.refl HA.out).drewN n).set 13 _ _ rfl
      · have hb : (((c.ch[k].toNat : Nat) : Int) == 10) = false := byte_neB (n := 10) (by omega) h10
        have hb2 : (((c.ch[k].toNat : Nat) : Int) != 10) = true := by rw [bne, hb]; rfl
        have H10 := Lib.hid (show c.ch.data.toList.getD k 0 ≠ 10 from by rw [HG.out]; exact h10)
        clear h10
        cases tk with
        | true =>
          go_wp2
          go_roundw
          case rel => exact ⟨false, k + 1, n, rfl, by go_num, HP.out.taken HN.out H10.out, HWR.out⟩
          case measure => simp [intOf]; omega
        | false =>
          by_cases h92 : c.ch[k] = 92
          · have hb3 : (((c.ch[k].toNat : Nat) : Int) == 92) = true := by rw [h92]; rfl
            have H92 := Lib.hid (show c.ch.data.toList.getD k 0 = 92 from by rw [HG.out]; exact h92)
            clear h92
            go_wp2
            go_roundw
            case rel => exact ⟨true, k + 1, n, rfl, by go_num, HP.out.slash HN.out H92.out (by decide), HWR.out⟩
            case measure => simp [intOf]; omega
          · have hb3 : (((c.ch[k].toNat : Nat) : Int) == 92) = false := byte_neB (n := 92) (by omega) h92
            have H92 := Lib.hid (show c.ch.data.toList.getD k 0 ≠ 92 from by rw [HG.out]; exact h92)
            clear h92
            by_cases hq : c.ch[k] = 39
            · have hb4 : (((c.ch[k].toNat : Nat) : Int) == 39) = true := by rw [hq]; rfl
              have HX := Lib.hid (HP.out.found H10.out H92.out (by rw [HG.out]; exact hq))
              clear hq
              go_wp2
              go_quiet (fail)
              go_wp2
              go_ret
              rw [HX.out]
              refine ⟨ret_nat rfl, c.u0, c.u1, ?_, HU0.out, HU1.out⟩
              rw [HWR.out]
              exact ((Step.refl HA.out).drewN n).drewN _
            · have hb4 : (((c.ch[k].toNat : Nat) : Int) == 39) = false := byte_neB (n := 39) (by omega) hq
              have HX := Lib.hid (show c.ch.data.toList.getD k 0 ≠ 39 from by rw [HG.out]; exact hq)
              clear hq
              go_wp2
              go_quiet (fail)
              go_wp2
              go_roundw
              case rel => exact ⟨false, k + 1, _, rfl, by go_num, HP.out.other HN.out H10.out H92.out HX.out, by rw [HWR.out, World.drewN_drewN]⟩
              case measure => simp [intOf]; omega

end Go.Proofs.Ytpnboieppkjfnaa
