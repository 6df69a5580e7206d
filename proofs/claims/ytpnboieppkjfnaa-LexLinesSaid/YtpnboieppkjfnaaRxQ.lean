/-
  The document's own quoted, walked.
-/
import Derived.Test.YtpnboieppkjfnaaRxA
namespace Go.Proofs.Ytpnboieppkjfnaa
open Go.RowKit

def PastR (l : List UInt8) (q : UInt8) (p k : Nat) : Prop := p < k ∧ k ≤ l.length ∧ qN q false (l.drop (p + 1)) = (qN q false (l.drop k)).map (· + (k - (p + 1)))

theorem qN_nil {l : List UInt8} {k : Nat} (q : UInt8) (t : Bool) (h : l.length ≤ k) : qN q t (l.drop k) = none := by
  rw [List.drop_eq_nil_of_le h]
  cases t <;> rfl

theorem PastR.on {l : List UInt8} {q : UInt8} {p k n : Nat} (h : PastR l q p k) (hn : 0 < n) (hk : k + n ≤ l.length) (he : qN q false (l.drop k) = (qN q false (l.drop (k + n))).map (· + n)) : PastR l q p (k + n) := by
  obtain ⟨h1, h2, h3⟩ := h
  refine ⟨by omega, hk, ?_⟩
  rw [h3, he, Option.map_map]
  congr 1
  funext m
  simp
  omega

theorem qN_slash {l : List UInt8} {q : UInt8} {k : Nat} (hk : k + 1 < l.length) (h92 : l.getD k 0 = 92) (h10 : l.getD (k + 1) 0 ≠ 10) : qN q false (l.drop k) = (qN q false (l.drop (k + 2))).map (· + 2) := by
  rw [qN_step q false (by omega), if_neg (by rw [h92]; decide), if_neg (by simp), if_pos h92, qN_step q true hk, if_neg h10, if_pos rfl, Option.map_map]
  congr 1
theorem qN_last {l : List UInt8} {q : UInt8} {k : Nat} (hk : k < l.length) (h92 : l.getD k 0 = 92) (h : ¬ (k + 1 < l.length ∧ l.getD (k + 1) 0 ≠ 10)) : qN q false (l.drop k) = (qN q false (l.drop (k + 1))).map (· + 1) := by
  rw [qN_step q false hk, if_neg (by rw [h92]; decide), if_neg (by simp), if_pos h92]
  by_cases h1 : k + 1 < l.length
  · have h2 : l.getD (k + 1) 0 = 10 := by
      rcases Classical.em (l.getD (k + 1) 0 = 10) with h3 | h3
      · exact h3
      · exact absurd ⟨h1, h3⟩ h
    rw [qN_step q true h1, qN_step q false h1, if_pos h2, if_pos h2]
  · rw [qN_nil q true (by omega), qN_nil q false (by omega)]
theorem qN_other {l : List UInt8} {q : UInt8} {k : Nat} (hk : k < l.length) (h10 : l.getD k 0 ≠ 10) (h92 : l.getD k 0 ≠ 92) (hq : l.getD k 0 ≠ q) : qN q false (l.drop k) = (qN q false (l.drop (k + 1))).map (· + 1) := by
  rw [qN_step q false hk, if_neg h10, if_neg (by simp), if_neg h92, if_neg hq]

theorem PastR.found {l : List UInt8} {q : UInt8} {p k : Nat} (h : PastR l q p k) (hk : k < l.length) (h10 : l.getD k 0 ≠ 10) (h92 : l.getD k 0 ≠ 92) (hq : l.getD k 0 = q) : qEnd l q p = k + 1 := by
  have h4 := h.2.2
  rw [qN_step q false hk, if_neg h10, if_neg (by simp), if_neg h92, if_pos hq] at h4
  unfold qEnd
  rw [h4]
  have := h.1
  simp
  omega
theorem PastR.no {l : List UInt8} {q : UInt8} {p k : Nat} (h : PastR l q p k) (hn : qN q false (l.drop k) = none) : qEnd l q p = 0 := by
  have h4 := h.2.2
  rw [hn] at h4
  unfold qEnd
  rw [h4]
  rfl

set_option maxRecDepth 100000 in
set_option maxHeartbeats 6400000 in
theorem rquoted_any {L : List Rn} {v : Value} {w : World} (h : RsAt L v w) (i : Nat) {x : Int} (hx : x = (i : Int)) (hL : L.length ≤ 1000000) (hi : i < L.length) {q : UInt8} (hq : (bytesOf L).getD i 0 = q) (hq92 : q ≠ 92) :
    Calls Try.prog 40 #[v, .int .i64 x] w (NatPost (qEnd (bytesOf L) q i) w) := by
  subst hx
  have hlen := bytesOf_len L
  have A0 := rat_any h i (x := (i : Int)) rfl
  rw [hq] at A0
  have HA0 := Lib.hid A0
  obtain ⟨a, cap, rfl, h1, h2, h3⟩ := h
  unfold maxLen at h2
  have H3 := Lib.hid h3
  have HQ := Lib.hid hq
  have HLEN := Lib.hid hlen
  have HP0 : Hid (PastR (bytesOf L) q i (i + 1)) := Lib.hid ⟨by omega, by omega, by simp⟩
  clear A0 h3 hq hlen
  go_enter Try.func40, Try.ntmps40
  go_wp2_with (go_at_call 38; (with_reducible refine HA0.out.mono ?_); rintro e w' ⟨rfl, rfl⟩)
  go_loop [6] (fun j => ∃ k : Nat, j = .int .i64 (k : Int) ∧ PastR (bytesOf L) q i k) (fun j => L.length - (intOf j).toNat)
  case atStart => exact ⟨i + 1, by go_num, HP0.out⟩
  case round =>
    obtain ⟨k, rfl, hp⟩ := hrel
    have hkl : k ≤ L.length := by have := hp.2.1; rw [HLEN.out] at this; exact this
    have HP := Lib.hid hp
    clear hp
    by_cases hlt : k < L.length
    · obtain ⟨r, hr⟩ : ∃ r, L[k]? = some r := ⟨_, List.getElem?_eq_getElem hlt⟩
      obtain ⟨g, rfl, hg, e0, -, -⟩ := H3.out k r hr
      have hki : (k : Int) < (L.length : Int) := by omega
      have HG := Lib.hid (get_bytes hr)
      have HKL : Hid (k < (bytesOf L).length) := Lib.hid (by rw [HLEN.out]; exact hlt)
      clear hr
      by_cases h10 : r.c = 10
      · have b1 : (((r.c.toNat : Nat) : Int) == 10) = true := by rw [h10]; rfl
        have b2 : (((r.c.toNat : Nat) : Int) != 10) = false := by rw [h10]; rfl
        have HX := Lib.hid (HP.out.no (by rw [qN_step q false HKL.out, if_pos (by rw [HG.out]; exact h10)]))
        clear h10
        go_wp2
        go_ret
        rw [HX.out]
        exact ⟨rfl, rfl⟩
      · have b1 : (((r.c.toNat : Nat) : Int) == 10) = false := byte_neB (n := 10) (by omega) h10
        have b2 : (((r.c.toNat : Nat) : Int) != 10) = true := by rw [bne, b1]; rfl
        have H10 := Lib.hid (show (bytesOf L).getD k 0 ≠ 10 from by rw [HG.out]; exact h10)
        clear h10
        by_cases h92 : r.c = 92
        · have b3 : (((r.c.toNat : Nat) : Int) == 92) = true := by rw [h92]; rfl
          have H92 := Lib.hid (show (bytesOf L).getD k 0 = 92 from by rw [HG.out]; exact h92)
          have hqr : (((r.c.toNat : Nat) : Int) == ((q.toNat : Nat) : Int)) = false := by
            rw [h92]
            simp only [beq_eq_false_iff_ne]
            intro e
            exact hq92 (UInt8.toNat_inj.1 (by have h5 : q.toNat = 92 := by (have h6 := e; simp at h6; omega)
                                              rw [h5]; rfl))
          by_cases hk1 : k + 1 < L.length
          · obtain ⟨r1, hr1⟩ : ∃ r, L[k + 1]? = some r := ⟨_, List.getElem?_eq_getElem hk1⟩
            obtain ⟨g1, hg1, -, e1, -, -⟩ := H3.out (k + 1) r1 hr1
            simp only [Option.some.injEq, Addr.mk.injEq, and_true] at hg1
            subst hg1
            have hki1 : (k : Int) + 1 < (L.length : Int) := by omega
            have hk0 : (0 : Int) ≤ (k : Int) + 1 := by omega
            have HG1 := Lib.hid (get_bytes hr1)
            clear hr1
            by_cases h11 : r1.c = 10
            · have b4 : (((r1.c.toNat : Nat) : Int) != 10) = false := by rw [h11]; rfl
              have HX := Lib.hid (qN_last (q := q) HKL.out H92.out (by rintro ⟨-, h3⟩; rw [HG1.out] at h3; exact h3 h11))
              clear h11 h92
              go_wp2
              go_round
              case rel => exact ⟨k + 1, by go_num, HP.out.on (by omega) (by rw [HLEN.out]; omega) HX.out⟩
              case measure => simp [intOf]; omega
            · have b5 : (((r1.c.toNat : Nat) : Int) == 10) = false := byte_neB (n := 10) (by omega) h11
              have b4 : (((r1.c.toNat : Nat) : Int) != 10) = true := by rw [bne, b5]; rfl
              have HX := Lib.hid (qN_slash (q := q) (l := bytesOf L) (k := k) (by rw [HLEN.out]; exact hk1) H92.out (by rw [HG1.out]; exact h11))
              clear h11 h92
              go_wp2
              go_round
              case rel => exact ⟨k + 2, by go_num, HP.out.on (by omega) (by rw [HLEN.out]; omega) HX.out⟩
              case measure => simp [intOf]; omega
          · have hki1 : ¬ (k : Int) + 1 < (L.length : Int) := by omega
            have HX := Lib.hid (qN_last (q := q) HKL.out H92.out (by rintro ⟨h3, -⟩; rw [HLEN.out] at h3; exact hk1 h3))
            clear h92
            go_wp2
            go_round
            case rel => exact ⟨k + 1, by go_num, HP.out.on (by omega) (by rw [HLEN.out]; omega) HX.out⟩
            case measure => simp [intOf]; omega
        · have b3 : (((r.c.toNat : Nat) : Int) == 92) = false := byte_neB (n := 92) (by omega) h92
          have H92 := Lib.hid (show (bytesOf L).getD k 0 ≠ 92 from by rw [HG.out]; exact h92)
          clear h92
          by_cases hqk : r.c = q
          · have hqr : (((r.c.toNat : Nat) : Int) == ((q.toNat : Nat) : Int)) = true := by rw [hqk]; simp
            have HX := Lib.hid (HP.out.found HKL.out H10.out H92.out (by rw [HG.out]; exact hqk))
            clear hqk
            go_wp2
            go_ret
            rw [HX.out]
            exact ⟨ret_nat (by omega), rfl⟩
          · have hqr : (((r.c.toNat : Nat) : Int) == ((q.toNat : Nat) : Int)) = false := by
              simp only [beq_eq_false_iff_ne]
              intro e
              exact hqk (UInt8.toNat_inj.1 (by omega))
            have HX := Lib.hid (qN_other (q := q) HKL.out H10.out H92.out (by rw [HG.out]; exact hqk))
            clear hqk
            go_wp2
            go_round
            case rel => exact ⟨k + 1, by go_num, HP.out.on (by omega) (by rw [HLEN.out]; omega) HX.out⟩
            case measure => simp [intOf]; omega
    · have hki : ¬ (k : Int) < (L.length : Int) := by omega
      have HX := Lib.hid (HP.out.no (qN_nil q false (by rw [HLEN.out]; omega)))
      go_wp2
      go_ret
      rw [HX.out]
      exact ⟨rfl, rfl⟩

end Go.Proofs.Ytpnboieppkjfnaa
