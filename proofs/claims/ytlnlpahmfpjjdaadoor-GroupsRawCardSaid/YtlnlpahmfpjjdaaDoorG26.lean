/-
  Texts of the proof, put together: RxA, RxQ, RxCo.
-/
import Derived.Test.YtlnlpahmfpjjdaaDoorG09
import Derived.Test.YtlnlpahmfpjjdaaDoorG03
import Derived.Test.YtlnlpahmfpjjdaaDoorG08

/-
  The document's own at, letters, quoted and text, walked.
-/
namespace Go.Proofs.YtlnlpahmfpjjdaaDoor
open Go.RowKit

/-- A row of the document's characters, as it is read. -/
def RsAt (L : List Rn) (v : Value) (w : World) : Prop :=
  ∃ a cap, v = .slice a L.length cap ∧ L.length ≤ cap ∧ cap ≤ maxLen ∧ ∀ i r, L[i]? = some r → ∃ g, a = some ⟨g, 0, none⟩ ∧ g < w.heap.size ∧
    w.cell? ⟨g, i * 3, none⟩ = some (.int .u8 (r.c.toNat : Int)) ∧ w.cell? ⟨g, i * 3 + 1, none⟩ = some (.int .i64 (r.f : Int)) ∧ w.cell? ⟨g, i * 3 + 2, none⟩ = some (.int .i64 (r.t : Int))

theorem RRow.at {W : World} {L : List Rn} {v : Value} {w : World} (h : RRow W v L w) : RsAt L v w := rrow_cells h
theorem RsAt.next {L : List Rn} {v : Value} {w w' : World} (h : RsAt L v w) (b : Below w.heap.size w w') : RsAt L v w' := by
  obtain ⟨a, cap, hv, h1, h2, h3⟩ := h
  refine ⟨a, cap, hv, h1, h2, fun i r hr => ?_⟩
  obtain ⟨g, hg, hlt, e0, e1, e2⟩ := h3 i r hr
  exact ⟨g, hg, Nat.lt_of_lt_of_le hlt b.size, (b.cell (p := ⟨g, i * 3, none⟩) hlt).trans e0, (b.cell (p := ⟨g, i * 3 + 1, none⟩) hlt).trans e1, (b.cell (p := ⟨g, i * 3 + 2, none⟩) hlt).trans e2⟩

def BytePost (c : UInt8) (w : World) (e : Ending) (w' : World) : Prop := e = .returned (.int .u8 (c.toNat : Int)) ∧ w = w'

theorem get_bytes {L : List Rn} {i : Nat} {r : Rn} (h : L[i]? = some r) : (bytesOf L).getD i 0 = r.c := by simp [bytesOf, List.getD, h]
theorem get_past {L : List Rn} {i : Nat} (h : L.length ≤ i) : (bytesOf L).getD i 0 = 0 := by simp [bytesOf, List.getD, List.getElem?_eq_none h]

set_option maxRecDepth 100000 in
theorem rat_any {L : List Rn} {v : Value} {w : World} (h : RsAt L v w) (i : Nat) {x : Int} (hx : x = (i : Int)) : Calls Tryd.prog 64 #[v, .int .i64 x] w (BytePost ((bytesOf L).getD i 0) w) := by
  subst hx
  obtain ⟨a, cap, rfl, h1, h2, h3⟩ := h
  unfold maxLen at h2
  have hi0 : ¬ (i : Int) < 0 := by omega
  by_cases hi : i < L.length
  · obtain ⟨r, hr⟩ : ∃ r, L[i]? = some r := ⟨_, List.getElem?_eq_getElem hi⟩
    obtain ⟨g, rfl, hg, e0, -, -⟩ := h3 i r hr
    have hii : ¬ (L.length : Int) ≤ (i : Int) := by omega
    have hii2 : (i : Int) < (L.length : Int) := by omega
    rw [get_bytes hr]
    clear h3 hr
    go_enter Tryd.func64, Tryd.ntmps64
    go_wp2
    go_ret
    exact ⟨rfl, rfl⟩
  · have hii : (L.length : Int) ≤ (i : Int) := by omega
    rw [get_past (by omega)]
    clear h3
    go_enter Tryd.func64, Tryd.ntmps64
    go_wp2
    go_ret
    exact ⟨rfl, rfl⟩

/-- The letters ahead of a constant; -1 if none begins. -/
def rlet (c0 c1 c2 : UInt8) : Int := if c0.toNat = 34 ∨ c0.toNat = 39 then 0 else if c0.toNat = 117 ∧ c1.toNat = 56 ∧ c2.toNat = 34 then 2 else if (c0.toNat = 76 ∨ c0.toNat = 117 ∨ c0.toNat = 85) ∧ (c1.toNat = 34 ∨ c1.toNat = 39) then 1 else -1

set_option maxRecDepth 100000 in
set_option maxHeartbeats 3200000 in
theorem rletters_any {L : List Rn} {v : Value} {w : World} (h : RsAt L v w) (i : Nat) (hi : i ≤ 1000000) : Calls Tryd.prog 65 #[v, .int .i64 (i : Int)] w fun e w' => e = .returned (.int .i64 (rlet ((bytesOf L).getD i 0) ((bytesOf L).getD (i + 1) 0) ((bytesOf L).getD (i + 2) 0))) ∧ w = w' := by
  have A0 := rat_any h i (x := (i : Int)) rfl
  have A1 := rat_any h (i + 1) (x := (i : Int) + 1) (by omega)
  have A2 := rat_any h (i + 2) (x := (i : Int) + 2) (by omega)
  obtain ⟨c0, hc0⟩ : ∃ c0, (bytesOf L).getD i 0 = c0 := ⟨_, rfl⟩
  obtain ⟨c1, hc1⟩ : ∃ c1, (bytesOf L).getD (i + 1) 0 = c1 := ⟨_, rfl⟩
  obtain ⟨c2, hc2⟩ : ∃ c2, (bytesOf L).getD (i + 2) 0 = c2 := ⟨_, rfl⟩
  rw [hc0] at A0 ⊢
  rw [hc1] at A1 ⊢
  rw [hc2] at A2 ⊢
  have HA0 := Lib.hid A0
  have HA1 := Lib.hid A1
  have HA2 := Lib.hid A2
  clear A0 A1 A2 hc0 hc1 hc2 h
  go_enter Tryd.func65, Tryd.ntmps65
  go_wp2_with (first
    | (go_at_call 64; (with_reducible refine HA0.out.mono ?_); rintro e w' ⟨rfl, rfl⟩)
    | (go_at_call 64; (with_reducible refine HA1.out.mono ?_); rintro e w' ⟨rfl, rfl⟩)
    | (go_at_call 64; (with_reducible refine HA2.out.mono ?_); rintro e w' ⟨rfl, rfl⟩))
  all_goals
    go_ret
    refine ⟨ret_nat ?_, rfl⟩
    unfold rlet
    try simp only [beq_iff_eq, beq_eq_false_iff_ne] at *
    first
      | (rw [if_pos (by omega)])
      | (rw [if_neg (by omega), if_pos (by omega)])
      | (rw [if_neg (by omega), if_neg (by omega), if_pos (by omega)])
      | (rw [if_neg (by omega), if_neg (by omega), if_neg (by omega)])

end Go.Proofs.YtlnlpahmfpjjdaaDoor

/-
  The document's own quoted, walked.
-/
namespace Go.Proofs.YtlnlpahmfpjjdaaDoor
open Go.RowKit

def PastR (l : List UInt8) (q : UInt8) (p k : Nat) : Prop := p < k ∧ k ≤ l.length ∧ qN q false (l.drop (p + 1)) = (qN q false (l.drop k)).map (· + (k - (p + 1)))

theorem qN_nil {l : List UInt8} {k : Nat} (q : UInt8) (t : Bool) (h : l.length ≤ k) : qN q t (l.drop k) = none := by
  rw [List.drop_eq_nil_of_le h]
  cases t <;> rfl

theorem PastR.on {l : List UInt8} {q : UInt8} {p k n : Nat} (h : PastR l q p k) (hn : 0 < n) (hk : k + n ≤ l.length) (he : qN q false (l.drop k) = (qN q false (l.drop (k + n))).map (· + n)) : PastR l q p (k + n) := by
  obtain ⟨h1, h2, h3⟩ := h
  refine ⟨by omega, hk, ?_⟩
  rw [h3, he, Option.map_map]
  congr 1
  funext m
  simp
  omega

theorem qN_slash {l : List UInt8} {q : UInt8} {k : Nat} (hk : k + 1 < l.length) (h92 : l.getD k 0 = 92) (h10 : l.getD (k + 1) 0 ≠ 10) : qN q false (l.drop k) = (qN q false (l.drop (k + 2))).map (· + 2) := by
  rw [qN_step q false (by omega), if_neg (by rw [h92]; decide), if_neg (by simp), if_pos h92, qN_step q true hk, if_neg h10, if_pos rfl, Option.map_map]
  congr 1
theorem qN_last {l : List UInt8} {q : UInt8} {k : Nat} (hk : k < l.length) (h92 : l.getD k 0 = 92) (h : ¬ (k + 1 < l.length ∧ l.getD (k + 1) 0 ≠ 10)) : qN q false (l.drop k) = (qN q false (l.drop (k + 1))).map (· + 1) := by
  rw [qN_step q false hk, if_neg (by rw [h92]; decide), if_neg (by simp), if_pos h92]
  by_cases h1 : k + 1 < l.length
  · have h2 : l.getD (k + 1) 0 = 10 := by
      rcases Classical.em (l.getD (k + 1) 0 = 10) with h3 | h3
      · exact h3
      · exact absurd ⟨h1, h3⟩ h
    rw [qN_step q true h1, qN_step q false h1, if_pos h2, if_pos h2]
  · rw [qN_nil q true (by omega), qN_nil q false (by omega)]
theorem qN_other {l : List UInt8} {q : UInt8} {k : Nat} (hk : k < l.length) (h10 : l.getD k 0 ≠ 10) (h92 : l.getD k 0 ≠ 92) (hq : l.getD k 0 ≠ q) : qN q false (l.drop k) = (qN q false (l.drop (k + 1))).map (· + 1) := by
  rw [qN_step q false hk, if_neg h10, if_neg (by simp), if_neg h92, if_neg hq]

theorem PastR.found {l : List UInt8} {q : UInt8} {p k : Nat} (h : PastR l q p k) (hk : k < l.length) (h10 : l.getD k 0 ≠ 10) (h92 : l.getD k 0 ≠ 92) (hq : l.getD k 0 = q) : qEnd l q p = k + 1 := by
  have h4 := h.2.2
  rw [qN_step q false hk, if_neg h10, if_neg (by simp), if_neg h92, if_pos hq] at h4
  unfold qEnd
  rw [h4]
  have := h.1
  simp
  omega
theorem PastR.no {l : List UInt8} {q : UInt8} {p k : Nat} (h : PastR l q p k) (hn : qN q false (l.drop k) = none) : qEnd l q p = 0 := by
  have h4 := h.2.2
  rw [hn] at h4
  unfold qEnd
  rw [h4]
  rfl

set_option maxRecDepth 100000 in
set_option maxHeartbeats 6400000 in
theorem rquoted_any {L : List Rn} {v : Value} {w : World} (h : RsAt L v w) (i : Nat) {x : Int} (hx : x = (i : Int)) (hL : L.length ≤ 1000000) (hi : i < L.length) {q : UInt8} (hq : (bytesOf L).getD i 0 = q) (hq92 : q ≠ 92) :
    Calls Tryd.prog 66 #[v, .int .i64 x] w (NatPost (qEnd (bytesOf L) q i) w) := by
  subst hx
  have hlen := bytesOf_len L
  have A0 := rat_any h i (x := (i : Int)) rfl
  rw [hq] at A0
  have HA0 := Lib.hid A0
  obtain ⟨a, cap, rfl, h1, h2, h3⟩ := h
  unfold maxLen at h2
  have H3 := Lib.hid h3
  have HQ := Lib.hid hq
  have HLEN := Lib.hid hlen
  have HP0 : Hid (PastR (bytesOf L) q i (i + 1)) := Lib.hid ⟨by omega, by omega, by simp⟩
  clear A0 h3 hq hlen
  go_enter Tryd.func66, Tryd.ntmps66
  go_wp2_with (go_at_call 64; (with_reducible refine HA0.out.mono ?_); rintro e w' ⟨rfl, rfl⟩)
  go_loop [6] (fun j => ∃ k : Nat, j = .int .i64 (k : Int) ∧ PastR (bytesOf L) q i k) (fun j => L.length - (intOf j).toNat)
  case atStart => exact ⟨i + 1, by go_num, HP0.out⟩
  case round =>
    obtain ⟨k, rfl, hp⟩ := hrel
    have hkl : k ≤ L.length := by have := hp.2.1; rw [HLEN.out] at this; exact this
    have HP := Lib.hid hp
    clear hp
    by_cases hlt : k < L.length
    · obtain ⟨r, hr⟩ : ∃ r, L[k]? = some r := ⟨_, List.getElem?_eq_getElem hlt⟩
      obtain ⟨g, rfl, hg, e0, -, -⟩ := H3.out k r hr
      have hki : (k : Int) < (L.length : Int) := by omega
      have HG := Lib.hid (get_bytes hr)
      have HKL : Hid (k < (bytesOf L).length) := Lib.hid (by rw [HLEN.out]; exact hlt)
      clear hr
      by_cases h10 : r.c = 10
      · have b1 : (((r.c.toNat : Nat) : Int) == 10) = true := by rw [h10]; rfl
        have b2 : (((r.c.toNat : Nat) : Int) != 10) = false := by rw [h10]; rfl
        have HX := Lib.hid (HP.out.no (by rw [qN_step q false HKL.out, if_pos (by rw [HG.out]; exact h10)]))
        clear h10
        go_wp2
        go_ret
        rw [HX.out]
        exact ⟨rfl, rfl⟩
      · have b1 : (((r.c.toNat : Nat) : Int) == 10) = false := byte_neB (n := 10) (by omega) h10
        have b2 : (((r.c.toNat : Nat) : Int) != 10) = true := by rw [bne, b1]; rfl
        have H10 := Lib.hid (show (bytesOf L).getD k 0 ≠ 10 from by rw [HG.out]; exact h10)
        clear h10
        by_cases h92 : r.c = 92
        · have b3 : (((r.c.toNat : Nat) : Int) == 92) = true := by rw [h92]; rfl
          have H92 := Lib.hid (show (bytesOf L).getD k 0 = 92 from by rw [HG.out]; exact h92)
          have hqr : (((r.c.toNat : Nat) : Int) == ((q.toNat : Nat) : Int)) = false := by
            rw [h92]
            simp only [beq_eq_false_iff_ne]
            intro e
            exact hq92 (UInt8.toNat_inj.1 (by have h5 : q.toNat = 92 := by (have h6 := e; simp at h6; omega)
                                              rw [h5]; rfl))
          by_cases hk1 : k + 1 < L.length
          · obtain ⟨r1, hr1⟩ : ∃ r, L[k + 1]? = some r := ⟨_, List.getElem?_eq_getElem hk1⟩
            obtain ⟨g1, hg1, -, e1, -, -⟩ := H3.out (k + 1) r1 hr1
            simp only [Option.some.injEq, Addr.mk.injEq, and_true] at hg1
            subst hg1
            have hki1 : (k : Int) + 1 < (L.length : Int) := by omega
            have hk0 : (0 : Int) ≤ (k : Int) + 1 := by omega
            have HG1 := Lib.hid (get_bytes hr1)
            clear hr1
            by_cases h11 : r1.c = 10
            · have b4 : (((r1.c.toNat : Nat) : Int) != 10) = false := by rw [h11]; rfl
              have HX := Lib.hid (qN_last (q := q) HKL.out H92.out (by rintro ⟨-, h3⟩; rw [HG1.out] at h3; exact h3 h11))
              clear h11 h92
              go_wp2
              go_round
              case rel => exact ⟨k + 1, by go_num, HP.out.on (by omega) (by rw [HLEN.out]; omega) HX.out⟩
              case measure => simp [intOf]; omega
            · have b5 : (((r1.c.toNat : Nat) : Int) == 10) = false := byte_neB (n := 10) (by omega) h11
              have b4 : (((r1.c.toNat : Nat) : Int) != 10) = true := by rw [bne, b5]; rfl
              have HX := Lib.hid (qN_slash (q := q) (l := bytesOf L) (k := k) (by rw [HLEN.out]; exact hk1) H92.out (by rw [HG1.out]; exact h11))
              clear h11 h92
              go_wp2
              go_round
              case rel => exact ⟨k + 2, by go_num, HP.out.on (by omega) (by rw [HLEN.out]; omega) HX.out⟩
              case measure => simp [intOf]; omega
          · have hki1 : ¬ (k : Int) + 1 < (L.length : Int) := by omega
            have HX := Lib.hid (qN_last (q := q) HKL.out H92.out (by rintro ⟨h3, -⟩; rw [HLEN.out] at h3; exact hk1 h3))
            clear h92
            go_wp2
            go_round
            case rel => exact ⟨k + 1, by go_num, HP.out.on (by omega) (by rw [HLEN.out]; omega) HX.out⟩
            case measure => simp [intOf]; omega
        · have b3 : (((r.c.toNat : Nat) : Int) == 92) = false := byte_neB (n := 92) (by omega) h92
          have H92 := Lib.hid (show (bytesOf L).getD k 0 ≠ 92 from by rw [HG.out]; exact h92)
          clear h92
          by_cases hqk : r.c = q
          · have hqr : (((r.c.toNat : Nat) : Int) == ((q.toNat : Nat) : Int)) = true := by rw [hqk]; simp
            have HX := Lib.hid (HP.out.found HKL.out H10.out H92.out (by rw [HG.out]; exact hqk))
            clear hqk
            go_wp2
            go_ret
            rw [HX.out]
            exact ⟨ret_nat (by omega), rfl⟩
          · have hqr : (((r.c.toNat : Nat) : Int) == ((q.toNat : Nat) : Int)) = false := by
              simp only [beq_eq_false_iff_ne]
              intro e
              exact hqk (UInt8.toNat_inj.1 (by omega))
            have HX := Lib.hid (qN_other (q := q) HKL.out H10.out H92.out (by rw [HG.out]; exact hqk))
            clear hqk
            go_wp2
            go_round
            case rel => exact ⟨k + 1, by go_num, HP.out.on (by omega) (by rw [HLEN.out]; omega) HX.out⟩
            case measure => simp [intOf]; omega
    · have hki : ¬ (k : Int) < (L.length : Int) := by omega
      have HX := Lib.hid (HP.out.no (qN_nil q false (by rw [HLEN.out]; omega)))
      go_wp2
      go_ret
      rw [HX.out]
      exact ⟨rfl, rfl⟩

end Go.Proofs.YtlnlpahmfpjjdaaDoor

/-
  The document's own comment and text, walked.
-/
namespace Go.Proofs.YtlnlpahmfpjjdaaDoor
open Go.RowKit

def comOut (n i : Nat) : Option Nat → Nat × Bool
  | some k => (i + 2 + k, false)
  | none => (n, true)

/-- Where a comment ends that begins at a place, and whether it does not. -/
def rcom (l : List UInt8) (i : Nat) : Nat × Bool :=
  if l.getD i 0 = 47 ∧ l.getD (i + 1) 0 = 47 then (i + remN (l.drop i), false)
  else if l.getD i 0 = 47 ∧ l.getD (i + 1) 0 = 42 then comOut l.length i (comN (l.drop (i + 2))) else (i, false)

def ComPost (r : Nat × Bool) (w : World) (e : Ending) (w' : World) : Prop := e = .returned (.tuple #[.int .i64 (r.1 : Int), .bool r.2]) ∧ w = w'

theorem com_none {l : List UInt8} {i : Nat} (h : l.getD i 0 ≠ 47 ∨ (l.getD (i + 1) 0 ≠ 47 ∧ l.getD (i + 1) 0 ≠ 42)) : rcom l i = (i, false) := by
  unfold rcom
  rw [if_neg, if_neg]
  · rintro ⟨h1, h2⟩
    rcases h with h | h
    · exact h h1
    · exact h.2 h2
  · rintro ⟨h1, h2⟩
    rcases h with h | h
    · exact h h1
    · exact h.1 h2

set_option maxRecDepth 100000 in
set_option maxHeartbeats 3200000 in
theorem rcom_no {L : List Rn} {v : Value} {w : World} (h : RsAt L v w) (i : Nat) (hi : i ≤ 1000000) (hc : (bytesOf L).getD i 0 ≠ 47 ∨ ((bytesOf L).getD (i + 1) 0 ≠ 47 ∧ (bytesOf L).getD (i + 1) 0 ≠ 42)) : Calls Tryd.prog 44 #[v, .int .i64 (i : Int)] w (ComPost (rcom (bytesOf L) i) w) := by
  rw [com_none hc]
  have A0 := rat_any h i (x := (i : Int)) rfl
  have A1 := rat_any h (i + 1) (x := (i : Int) + 1) (by omega)
  obtain ⟨c0, hc0⟩ : ∃ c0, (bytesOf L).getD i 0 = c0 := ⟨_, rfl⟩
  obtain ⟨c1, hc1⟩ : ∃ c1, (bytesOf L).getD (i + 1) 0 = c1 := ⟨_, rfl⟩
  rw [hc0] at A0 hc
  rw [hc1] at A1 hc
  have HA0 := Lib.hid A0
  have HA1 := Lib.hid A1
  clear A0 A1 hc0 hc1 h
  by_cases h47 : c0 = 47
  · have x1 : (((c0.toNat : Nat) : Int) == 47) = true := byte_eqB (n := 47) (by omega) h47
    have x2 : (((c0.toNat : Nat) : Int) != 47) = false := by rw [bne, x1]; rfl
    have hc2 := hc.resolve_left (fun e => e h47)
    have y1 : (((c1.toNat : Nat) : Int) == 47) = false := byte_neB (n := 47) (by omega) hc2.1
    have y2 : (((c1.toNat : Nat) : Int) == 42) = false := byte_neB (n := 42) (by omega) hc2.2
    have y3 : (((c1.toNat : Nat) : Int) != 42) = true := by rw [bne, y2]; rfl
    clear hc hc2 h47
    go_enter Tryd.func44, Tryd.ntmps44
    go_wp2_with (first
      | (go_at_call 64; (with_reducible refine HA0.out.mono ?_); rintro e w' ⟨rfl, rfl⟩)
      | (go_at_call 64; (with_reducible refine HA1.out.mono ?_); rintro e w' ⟨rfl, rfl⟩))
    go_ret2
    exact ⟨rfl, rfl⟩
  · have x1 : (((c0.toNat : Nat) : Int) == 47) = false := byte_neB (n := 47) (by omega) h47
    have x2 : (((c0.toNat : Nat) : Int) != 47) = true := by rw [bne, x1]; rfl
    clear hc h47
    go_enter Tryd.func44, Tryd.ntmps44
    go_wp2_with (go_at_call 64; (with_reducible refine HA0.out.mono ?_); rintro e w' ⟨rfl, rfl⟩)
    go_ret2
    exact ⟨rfl, rfl⟩

theorem remN_drop {l : List UInt8} {j : Nat} (h : j < l.length) : remN (l.drop j) = if l.getD j 0 = 10 then 0 else remN (l.drop (j + 1)) + 1 := by
  rw [drop_cons h]
  rfl

set_option maxRecDepth 100000 in
set_option maxHeartbeats 3200000 in
theorem rcom_rem {L : List Rn} {v : Value} {w : World} (h : RsAt L v w) (i : Nat) (_hL : L.length ≤ 1000000) (hi : i < L.length) (hc : (bytesOf L).getD i 0 = 47 ∧ (bytesOf L).getD (i + 1) 0 = 47) : Calls Tryd.prog 44 #[v, .int .i64 (i : Int)] w (ComPost (rcom (bytesOf L) i) w) := by
  have hR : rcom (bytesOf L) i = (i + remN ((bytesOf L).drop i), false) := by unfold rcom; rw [if_pos hc]
  rw [hR]
  have hlen := bytesOf_len L
  have A0 := rat_any h i (x := (i : Int)) rfl
  have A1 := rat_any h (i + 1) (x := (i : Int) + 1) (by omega)
  rw [hc.1] at A0
  rw [hc.2] at A1
  have HA0 : Hid (Calls Tryd.prog 64 #[v, .int .i64 (i : Int)] w fun e w' => e = .returned (.int .u8 47) ∧ w = w') := Lib.hid A0
  have HA1 : Hid (Calls Tryd.prog 64 #[v, .int .i64 ((i : Int) + 1)] w fun e w' => e = .returned (.int .u8 47) ∧ w = w') := Lib.hid A1
  obtain ⟨a, cap, rfl, h1, h2, h3⟩ := h
  unfold maxLen at h2
  have H3 := Lib.hid h3
  have HLEN := Lib.hid hlen
  clear A0 A1 h3 hlen hc hR
  go_enter Tryd.func44, Tryd.ntmps44
  go_wp2_with (first
    | (go_at_call 64; (with_reducible refine HA0.out.mono ?_); rintro e w' ⟨rfl, rfl⟩)
    | (go_at_call 64; (with_reducible refine HA1.out.mono ?_); rintro e w' ⟨rfl, rfl⟩))
  go_loop [6] (fun j => ∃ k : Nat, j = .int .i64 (k : Int) ∧ i ≤ k ∧ k ≤ L.length ∧ i + remN ((bytesOf L).drop i) = k + remN ((bytesOf L).drop k)) (fun j => L.length - (intOf j).toNat)
  case atStart => exact ⟨i, rfl, Nat.le_refl _, by omega, rfl⟩
  case round =>
    obtain ⟨k, rfl, hik, hkl, hr⟩ := hrel
    have HR := Lib.hid hr
    clear hr
    by_cases hlt : k < L.length
    · obtain ⟨r, hrr⟩ : ∃ r, L[k]? = some r := ⟨_, List.getElem?_eq_getElem hlt⟩
      obtain ⟨g, rfl, hg, e0, -, -⟩ := H3.out k r hrr
      have hki : (k : Int) < (L.length : Int) := by omega
      have hs := remN_drop (l := bytesOf L) (j := k) (by rw [HLEN.out]; exact hlt)
      rw [get_bytes hrr] at hs
      clear hrr
      by_cases h10 : r.c = 10
      · have b1 : (((r.c.toNat : Nat) : Int) == 10) = true := by rw [h10]; rfl
        have b2 : (((r.c.toNat : Nat) : Int) != 10) = false := by rw [h10]; rfl
        rw [if_pos h10] at hs
        have HX : Hid (i + remN ((bytesOf L).drop i) = k) := Lib.hid (by rw [HR.out, hs]; rfl)
        clear h10 hs
        go_wp2
        go_ret2
        rw [HX.out]
        exact ⟨rfl, rfl⟩
      · have b1 : (((r.c.toNat : Nat) : Int) == 10) = false := byte_neB (n := 10) (by omega) h10
        have b2 : (((r.c.toNat : Nat) : Int) != 10) = true := by rw [bne, b1]; rfl
        rw [if_neg h10] at hs
        have HX : Hid (i + remN ((bytesOf L).drop i) = k + 1 + remN ((bytesOf L).drop (k + 1))) := Lib.hid (by rw [HR.out, hs]; omega)
        clear h10 hs
        go_wp2
        go_round
        case rel => exact ⟨k + 1, by go_num, by omega, by omega, HX.out⟩
        case measure => simp [intOf]; omega
    · have hki : ¬ (k : Int) < (L.length : Int) := by omega
      have HX : Hid (i + remN ((bytesOf L).drop i) = k) := Lib.hid (by
        rw [HR.out, List.drop_eq_nil_of_le (by rw [HLEN.out]; omega)]
        rfl)
      go_wp2
      go_ret2
      rw [HX.out]
      exact ⟨rfl, rfl⟩

set_option maxRecDepth 100000 in
set_option maxHeartbeats 6400000 in
theorem rcom_com {L : List Rn} {v : Value} {w : World} (h : RsAt L v w) (i : Nat) (_hL : L.length ≤ 1000000) (_hi : i < L.length) (hc : (bytesOf L).getD i 0 = 47 ∧ (bytesOf L).getD (i + 1) 0 = 42) : Calls Tryd.prog 44 #[v, .int .i64 (i : Int)] w (ComPost (rcom (bytesOf L) i) w) := by
  have hR : rcom (bytesOf L) i = comOut (bytesOf L).length i (comN ((bytesOf L).drop (i + 2))) := by
    unfold rcom
    rw [if_neg (by rw [hc.2]; rintro ⟨-, h⟩; revert h; decide), if_pos hc]
  rw [hR]
  have hlen := bytesOf_len L
  have hi1 : i + 1 < L.length := by
    have := getD_lt (l := bytesOf L) (i := i + 1) (by rw [hc.2]; decide)
    rw [hlen] at this
    exact this
  have A0 := rat_any h i (x := (i : Int)) rfl
  have A1 := rat_any h (i + 1) (x := (i : Int) + 1) (by omega)
  rw [hc.1] at A0
  rw [hc.2] at A1
  have HA0 : Hid (Calls Tryd.prog 64 #[v, .int .i64 (i : Int)] w fun e w' => e = .returned (.int .u8 47) ∧ w = w') := Lib.hid A0
  have HA1 : Hid (Calls Tryd.prog 64 #[v, .int .i64 ((i : Int) + 1)] w fun e w' => e = .returned (.int .u8 42) ∧ w = w') := Lib.hid A1
  have AK : Hid (∀ (j : Nat) (c : UInt8), (bytesOf L).getD (j + 1) 0 = c → Calls Tryd.prog 64 #[v, .int .i64 ((j : Int) + 1)] w (BytePost c w)) := Lib.hid (fun j c hc => hc ▸ rat_any h (j + 1) (by omega))
  obtain ⟨a, cap, rfl, h1, h2, h3⟩ := h
  unfold maxLen at h2
  have H3 := Lib.hid h3
  have HLEN := Lib.hid hlen
  obtain ⟨o, ho⟩ : ∃ o, comN ((bytesOf L).drop (i + 2)) = o := ⟨_, rfl⟩
  have HO := Lib.hid ho
  rw [ho]
  clear A0 A1 h3 hlen hc hR ho
  go_enter Tryd.func44, Tryd.ntmps44
  go_wp2_with (first
    | (go_at_call 64; (with_reducible refine HA0.out.mono ?_); rintro e w' ⟨rfl, rfl⟩)
    | (go_at_call 64; (with_reducible refine HA1.out.mono ?_); rintro e w' ⟨rfl, rfl⟩))
  go_loop [7] (fun j => ∃ k : Nat, j = .int .i64 (k : Int) ∧ i + 2 ≤ k ∧ k ≤ L.length ∧ o = (comN ((bytesOf L).drop k)).map (· + (k - (i + 2)))) (fun j => L.length - (intOf j).toNat)
  case atStart => exact ⟨i + 2, by go_num, Nat.le_refl _, by omega, by rw [HO.out]; simp⟩
  case round =>
    obtain ⟨k, rfl, hik, hkl, hr⟩ := hrel
    have HR := Lib.hid hr
    clear hr
    by_cases hlt : k < L.length
    · obtain ⟨r, hrr⟩ : ∃ r, L[k]? = some r := ⟨_, List.getElem?_eq_getElem hlt⟩
      obtain ⟨g, rfl, hg, e0, -, -⟩ := H3.out k r hrr
      have hki : (k : Int) < (L.length : Int) := by omega
      have hs := comN_step (l := bytesOf L) (i := k) (by rw [HLEN.out]; exact hlt)
      rw [get_bytes hrr] at hs
      obtain ⟨d, hd⟩ : ∃ d, (bytesOf L).getD (k + 1) 0 = d := ⟨_, rfl⟩
      have HK := Lib.hid (AK.out k d hd)
      rw [hd] at hs
      clear hrr hd
      by_cases h42 : r.c = 42
      · have b1 : (((r.c.toNat : Nat) : Int) == 42) = true := by rw [h42]; rfl
        by_cases h47 : d = 47
        · have b2 : (((d.toNat : Nat) : Int) == 47) = true := by rw [h47]; rfl
          rw [if_pos ⟨h42, h47⟩] at hs
          have HX : Hid (o = some (2 + (k - (i + 2)))) := Lib.hid (by rw [HR.out, hs]; rfl)
          clear h42 h47 hs
          go_wp2_with (go_at_call 64; (with_reducible refine HK.out.mono ?_); rintro e w' ⟨rfl, rfl⟩)
          go_ret2
          rw [HX.out]
          refine ⟨?_, rfl⟩
          show Ending.returned (.tuple #[.int .i64 ((k : Int) + 2), .bool false]) = .returned (.tuple #[.int .i64 ((i + 2 + (2 + (k - (i + 2))) : Nat) : Int), .bool false])
          rw [show i + 2 + (2 + (k - (i + 2))) = k + 2 from by omega]
          rfl
        · have b2 : (((d.toNat : Nat) : Int) == 47) = false := byte_neB (n := 47) (by omega) h47
          rw [if_neg (fun h => h47 h.2)] at hs
          have HX : Hid (o = (comN ((bytesOf L).drop (k + 1))).map (· + (k + 1 - (i + 2)))) := Lib.hid (by
            rw [HR.out, hs, Option.map_map]
            congr 1
            funext n
            simp
            omega)
          clear h42 h47 hs
          go_wp2_with (go_at_call 64; (with_reducible refine HK.out.mono ?_); rintro e w' ⟨rfl, rfl⟩)
          go_round
          case rel => exact ⟨k + 1, by go_num, by omega, by omega, HX.out⟩
          case measure => simp [intOf]; omega
      · have b1 : (((r.c.toNat : Nat) : Int) == 42) = false := byte_neB (n := 42) (by omega) h42
        rw [if_neg (fun h => h42 h.1)] at hs
        have HX : Hid (o = (comN ((bytesOf L).drop (k + 1))).map (· + (k + 1 - (i + 2)))) := Lib.hid (by
          rw [HR.out, hs, Option.map_map]
          congr 1
          funext n
          simp
          omega)
        clear h42 hs
        go_wp2
        go_round
        case rel => exact ⟨k + 1, by go_num, by omega, by omega, HX.out⟩
        case measure => simp [intOf]; omega
    · have hki : ¬ (k : Int) < (L.length : Int) := by omega
      have HX : Hid (o = none) := Lib.hid (by
        rw [HR.out, List.drop_eq_nil_of_le (by rw [HLEN.out]; omega)]
        rfl)
      go_wp2
      go_ret2
      rw [HX.out]
      refine ⟨?_, rfl⟩
      show Ending.returned (.tuple #[.int .i64 (L.length : Int), .bool true]) = .returned (.tuple #[.int .i64 ((bytesOf L).length : Int), .bool true])
      rw [HLEN.out]

theorem rcomment_any {L : List Rn} {v : Value} {w : World} (h : RsAt L v w) (i : Nat) (hL : L.length ≤ 1000000) (hi : i < L.length) : Calls Tryd.prog 44 #[v, .int .i64 (i : Int)] w (ComPost (rcom (bytesOf L) i) w) := by
  by_cases h0 : (bytesOf L).getD i 0 = 47
  · by_cases h1 : (bytesOf L).getD (i + 1) 0 = 47
    · exact rcom_rem h i hL hi ⟨h0, h1⟩
    · by_cases h2 : (bytesOf L).getD (i + 1) 0 = 42
      · exact rcom_com h i hL hi ⟨h0, h2⟩
      · exact rcom_no h i (by omega) (.inr ⟨h1, h2⟩)
  · exact rcom_no h i (by omega) (.inl h0)

end Go.Proofs.YtlnlpahmfpjjdaaDoor
