/-
  same of the law, walked over two rows; awake.
-/
import Derived.Test.YtlbjogdlapjfeaaBack
namespace Go.Proofs.Ytlbjogdlapjfeaa
open Go.RowKit

def SameRel (n : Nat) (i : Value) (w0 w : World) : Prop := ∃ (k m : Nat), i = .int .i64 (k : Int) ∧ k ≤ n ∧ w = w0.drewN m

theorem drewN_heap (w : World) (m : Nat) : (w.drewN m).heap = w.heap := rfl
theorem drewN_cell {w : World} {m : Nat} {a : Addr} {u : Value} (h : w.cell? a = some u) : (w.drewN m).cell? a = some u := h

set_option maxRecDepth 100000 in
set_option maxHeartbeats 1600000 in
theorem same_any {W W2 w : World} {a1 a2 : Option Addr} {n cap1 cap2 : Nat} {L : List Rn} (h1 : CRow W (.slice a1 n cap1) L w) (h2 : RRow W2 (.slice a2 n cap2) L w) (hn : n = L.length) (_hL : n ≤ 1000000) :
    Calls Try.prog 10 #[.slice a1 n cap1, .slice a2 n cap2] w fun e w' => e = .returned (.bool true) ∧ Below w.heap.size w w' := by
  obtain ⟨a', c', hv, hc1, hc2, hcell1⟩ := crow_cells h1
  simp only [Value.slice.injEq] at hv
  obtain ⟨rfl, -, rfl⟩ := hv
  obtain ⟨a', c', hv, hd1, hd2, hcell2⟩ := rrow_cells h2
  simp only [Value.slice.injEq] at hv
  obtain ⟨rfl, -, rfl⟩ := hv
  have H1 := Lib.hid hcell1
  have H2 := Lib.hid hcell2
  have HN := Lib.hid hn
  rw [← hn] at hc1 hd1
  unfold maxLen at hc2 hd2
  clear h1 h2 hcell1 hcell2 hn
  go_enter Try.func10, Try.ntmps10
  go_wp2
  go_loopw [5] (fun i w' => SameRel n i w w') (fun i _ => n - (intOf i).toNat)
  case atStart => exact ⟨0, 0, rfl, Nat.zero_le _, rfl⟩
  case round =>
    obtain ⟨k, m, rfl, hk, rfl⟩ := hrel
    by_cases hlt : k < n
    · obtain ⟨r, hr⟩ : ∃ r, L[k]? = some r := ⟨_, List.getElem?_eq_getElem (by rw [← HN.out]; exact hlt)⟩
      obtain ⟨g, rfl, hg, d0, d1, d2⟩ := H1.out k r hr
      obtain ⟨g2, rfl, hg2, e0, e1, e2⟩ := H2.out k r hr
      have hki : (k : Int) < (n : Int) := by omega
      have hk0 : (0 : Int) ≤ (k : Int) := by omega
      clear hr
      go_wp2
      go_quiet (fail)
      go_wp2
      go_roundw
      case rel => exact ⟨k + 1, _, by go_num, hlt, by first | rfl | (rw [World.drewN_drewN])⟩
      case measure => simp [intOf]; omega
    · have hki : ¬ (k : Int) < (n : Int) := by omega
      go_wp2
      go_ret
      exact ⟨rfl, Below.of_drews _ _⟩

end Go.Proofs.Ytlbjogdlapjfeaa
