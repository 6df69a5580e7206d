/-
  The document's own at, letters, quoted and text, walked.
-/
import Derived.Test.YtpnboieppkjfnaaLxMid
import Derived.Test.YtpnboieppkjfnaaLxC
namespace Go.Proofs.Ytpnboieppkjfnaa
open Go.RowKit

/-- A row of the document's characters, as it is read. -/
def RsAt (L : List Rn) (v : Value) (w : World) : Prop :=
  ∃ a cap, v = .slice a L.length cap ∧ L.length ≤ cap ∧ cap ≤ maxLen ∧ ∀ i r, L[i]? = some r → ∃ g, a = some ⟨g, 0, none⟩ ∧ g < w.heap.size ∧
    w.cell? ⟨g, i * 3, none⟩ = some (.int .u8 (r.c.toNat : Int)) ∧ w.cell? ⟨g, i * 3 + 1, none⟩ = some (.int .i64 (r.f : Int)) ∧ w.cell? ⟨g, i * 3 + 2, none⟩ = some (.int .i64 (r.t : Int))

theorem RRow.at {W : World} {L : List Rn} {v : Value} {w : World} (h : RRow W v L w) : RsAt L v w := rrow_cells h
theorem RsAt.next {L : List Rn} {v : Value} {w w' : World} (h : RsAt L v w) (b : Below w.heap.size w w') : RsAt L v w' := by
  obtain ⟨a, cap, hv, h1, h2, h3⟩ := h
  refine ⟨a, cap, hv, h1, h2, fun i r hr => ?_⟩
  obtain ⟨g, hg, hlt, e0, e1, e2⟩ := h3 i r hr
  exact ⟨g, hg, Nat.lt_of_lt_of_le hlt b.size, (b.cell (p := ⟨g, i * 3, none⟩) hlt).trans e0, (b.cell (p := ⟨g, i * 3 + 1, none⟩) hlt).trans e1, (b.cell (p := ⟨g, i * 3 + 2, none⟩) hlt).trans e2⟩

def BytePost (c : UInt8) (w : World) (e : Ending) (w' : World) : Prop := e = .returned (.int .u8 (c.toNat : Int)) ∧ w = w'

theorem get_bytes {L : List Rn} {i : Nat} {r : Rn} (h : L[i]? = some r) : (bytesOf L).getD i 0 = r.c := by simp [bytesOf, List.getD, h]
theorem get_past {L : List Rn} {i : Nat} (h : L.length ≤ i) : (bytesOf L).getD i 0 = 0 := by simp [bytesOf, List.getD, List.getElem?_eq_none h]

set_option maxRecDepth 100000 in
theorem rat_any {L : List Rn} {v : Value} {w : World} (h : RsAt L v w) (i : Nat) {x : Int} (hx : x = (i : Int)) : Calls Try.prog 38 #[v, .int .i64 x] w (BytePost ((bytesOf L).getD i 0) w) := by
  subst hx
  obtain ⟨a, cap, rfl, h1, h2, h3⟩ := h
  unfold maxLen at h2
  have hi0 : ¬ (i : Int) < 0 := by omega
  by_cases hi : i < L.length
  · obtain ⟨r, hr⟩ : ∃ r, L[i]? = some r := ⟨_, List.getElem?_eq_getElem hi⟩
    obtain ⟨g, rfl, hg, e0, -, -⟩ := h3 i r hr
    have hii : ¬ (L.length : Int) ≤ (i : Int) := by omega
    have hii2 : (i : Int) < (L.length : Int) := by omega
    rw [get_bytes hr]
    clear h3 hr
    go_enter Try.func38, Try.ntmps38
    go_wp2
    go_ret
    exact ⟨rfl, rfl⟩
  · have hii : (L.length : Int) ≤ (i : Int) := by omega
    rw [get_past (by omega)]
    clear h3
    go_enter Try.func38, Try.ntmps38
    go_wp2
    go_ret
    exact ⟨rfl, rfl⟩

/-- The letters ahead of a constant; -1 if none begins. -/
def rlet (c0 c1 c2 : UInt8) : Int := if c0.toNat = 34 ∨ c0.toNat = 39 then 0 else if c0.toNat = 117 ∧ c1.toNat = 56 ∧ c2.toNat = 34 then 2 else if (c0.toNat = 76 ∨ c0.toNat = 117 ∨ c0.toNat = 85) ∧ (c1.toNat = 34 ∨ c1.toNat = 39) then 1 else -1

set_option maxRecDepth 100000 in
set_option maxHeartbeats 3200000 in
theorem rletters_any {L : List Rn} {v : Value} {w : World} (h : RsAt L v w) (i : Nat) (hi : i ≤ 1000000) : Calls Try.prog 39 #[v, .int .i64 (i : Int)] w fun e w' => e = .returned (.int .i64 (rlet ((bytesOf L).getD i 0) ((bytesOf L).getD (i + 1) 0) ((bytesOf L).getD (i + 2) 0))) ∧ w = w' := by
  have A0 := rat_any h i (x := (i : Int)) rfl
  have A1 := rat_any h (i + 1) (x := (i : Int) + 1) (by omega)
  have A2 := rat_any h (i + 2) (x := (i : Int) + 2) (by omega)
  obtain ⟨c0, hc0⟩ : ∃ c0, (bytesOf L).getD i 0 = c0 := ⟨_, rfl⟩
  obtain ⟨c1, hc1⟩ : ∃ c1, (bytesOf L).getD (i + 1) 0 = c1 := ⟨_, rfl⟩
  obtain ⟨c2, hc2⟩ : ∃ c2, (bytesOf L).getD (i + 2) 0 = c2 := ⟨_, rfl⟩
  rw [hc0] at A0 ⊢
  rw [hc1] at A1 ⊢
  rw [hc2] at A2 ⊢
  have HA0 := Lib.hid A0
  have HA1 := Lib.hid A1
  have HA2 := Lib.hid A2
  clear A0 A1 A2 hc0 hc1 hc2 h
  go_enter Try.func39, Try.ntmps39
  go_wp2_with (first
    | (go_at_call 38; (with_reducible refine HA0.out.mono ?_); rintro e w' ⟨rfl, rfl⟩)
    | (go_at_call 38; (with_reducible refine HA1.out.mono ?_); rintro e w' ⟨rfl, rfl⟩)
    | (go_at_call 38; (with_reducible refine HA2.out.mono ?_); rintro e w' ⟨rfl, rfl⟩))
  all_goals
    go_ret
    refine ⟨ret_nat ?_, rfl⟩
    unfold rlet
    try simp only [beq_iff_eq, beq_eq_false_iff_ne] at *
    first
      | (rw [if_pos (by omega)])
      | (rw [if_neg (by omega), if_pos (by omega)])
      | (rw [if_neg (by omega), if_neg (by omega), if_pos (by omega)])
      | (rw [if_neg (by omega), if_neg (by omega), if_neg (by omega)])

end Go.Proofs.Ytpnboieppkjfnaa
