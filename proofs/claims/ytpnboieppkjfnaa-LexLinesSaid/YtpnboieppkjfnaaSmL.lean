/-
  The document's SameTokens and SameLines, of what is the same.
-/
import Derived.Test.YtpnboieppkjfnaaSmT
import Derived.StillTailTactics
namespace Go.Proofs.Ytpnboieppkjfnaa
open Go.RowKit

set_option maxRecDepth 100000 in
set_option maxHeartbeats 3200000 in
theorem sameTokens_any {F : ByteArray} {T : List Tk} {v v' : Value} {w : World} (h : ToksAt F T v w) (h' : ToksAt F T v' w) : Calls Try.prog 26 #[v, v'] w (TruePost w) := by
  obtain ⟨a, cap, rfl, hc1, hc2, hcell⟩ := h
  obtain ⟨a', cap', rfl, hc1', hc2', hcell'⟩ := h'
  have HC := Lib.hid hcell
  have HC' := Lib.hid hcell'
  unfold maxLen at hc2 hc2'
  clear hcell hcell'
  go_enter Try.func26, Try.ntmps26
  go_wp2
  go_loopw [5] (fun i wr => ∃ k : Nat, i = .int .i64 (k : Int) ∧ k ≤ T.length ∧ Below w.heap.size w wr) (fun i _ => T.length - (intOf i).toNat)
  case atStart => exact ⟨0, rfl, Nat.zero_le _, Below.refl _ _⟩
  case round =>
    obtain ⟨k, rfl, hk, hb⟩ := hrel
    by_cases hlt : k < T.length
    · obtain ⟨t, ht⟩ : ∃ t, T[k]? = some t := ⟨_, List.getElem?_eq_getElem hlt⟩
      obtain ⟨g, rfl, hg, hta⟩ := HC.out k t ht
      obtain ⟨g', rfl, hg', htb⟩ := HC'.out k t ht
      obtain ⟨e0, e1, e2, e3, e4, e5, e6, e7⟩ := hta.next hb hg
      obtain ⟨f0, f1, f2, f3, f4, f5, f6, f7⟩ := htb.next hb hg'
      have hkI : (k : Int) < (T.length : Int) := by omega
      have hk0 : (0 : Int) ≤ (k : Int) := by omega
      have HB := Lib.hid hb
      have HS : Hid (∀ X : World, Calls Try.prog 45 #[.agg #[.int .i64 (t.k : Int), .string ⟨t.x.toArray⟩, .bool t.sp, .string F, .int .i64 (t.f : Int), .int .i64 (t.t : Int), .bool false, .slice none 0 0], .agg #[.int .i64 (t.k : Int), .string ⟨t.x.toArray⟩, .bool t.sp, .string F, .int .i64 (t.f : Int), .int .i64 (t.t : Int), .bool false, .slice none 0 0]] X (TruePost X)) := Lib.hid (fun X => sameToken_any F t X)
      obtain ⟨X, hX⟩ : ∃ X : ByteArray, (⟨t.x.toArray⟩ : ByteArray) = X := ⟨_, rfl⟩
      rw [hX] at e1 f1 HS
      clear hb ht hta htb hX
      go_wp2
      go_still_tail 8, (by kernel_rfl)
      change wpList _ _ _ _ _ wr.drew
      have HB2 : Hid (Below w.heap.size w wr.drew) := Lib.hid HB.out.drew
      obtain ⟨w2, hw2⟩ : ∃ w2, wr.drew = w2 := ⟨_, rfl⟩
      rw [hw2] at HB2 ⊢
      clear hw2 e0 e1 e2 e3 e4 e5 e6 e7 f0 f1 f2 f3 f4 f5 f6 f7
      go_wp2_with (go_at_call 45; (with_reducible refine (HS.out _).mono ?_); rintro e w3 ⟨rfl, hb3⟩; have HB3 := Lib.hid hb3; clear hb3)
      go_roundw
      case rel => exact ⟨k + 1, by go_num, hlt, HB2.out.trans (HB3.out.mono HB2.out.size)⟩
      case measure => simp [intOf]; omega
    · have hkI : ¬ (k : Int) < (T.length : Int) := by omega
      go_wp2
      go_ret
      exact ⟨rfl, hb⟩

theorem ToksAt.over {F : ByteArray} {T : List Tk} {v : Value} {w w' : World} (h : ToksAt F T v w) (b : Below w.heap.size w w') : ToksAt F T v w' := by
  obtain ⟨a, cap, hv, h1, h2, h3⟩ := h
  refine ⟨a, cap, hv, h1, h2, fun k t ht => ?_⟩
  obtain ⟨g, hg, hlt, hta⟩ := h3 k t ht
  exact ⟨g, hg, Nat.lt_of_lt_of_le hlt b.size, hta.next b hlt⟩

set_option maxRecDepth 100000 in
set_option maxHeartbeats 6400000 in
theorem sameLines_any {F : ByteArray} {T : List Ln} {v v' : Value} {w : World} (h : LinesAt F T v w) (h' : LinesAt F T v' w) : Calls Try.prog 11 #[v, v'] w (TruePost w) := by
  obtain ⟨a, cap, rfl, hc1, hc2, hcell⟩ := h
  obtain ⟨a', cap', rfl, hc1', hc2', hcell'⟩ := h'
  have HC := Lib.hid hcell
  have HC' := Lib.hid hcell'
  unfold maxLen at hc2 hc2'
  clear hcell hcell'
  go_enter Try.func11, Try.ntmps11
  go_wp2
  go_loopw [5] (fun i wr => ∃ k : Nat, i = .int .i64 (k : Int) ∧ k ≤ T.length ∧ Below w.heap.size w wr) (fun i _ => T.length - (intOf i).toNat)
  case atStart => exact ⟨0, rfl, Nat.zero_le _, Below.refl _ _⟩
  case round =>
    obtain ⟨k, rfl, hk, hb⟩ := hrel
    by_cases hlt : k < T.length
    · obtain ⟨t, ht⟩ : ∃ t, T[k]? = some t := ⟨_, List.getElem?_eq_getElem hlt⟩
      obtain ⟨g, tv, rfl, hg, e0, e1, e2, e3, hta⟩ := HC.out k t ht
      obtain ⟨g', tv', rfl, hg', f0, f1, f2, f3, htb⟩ := HC'.out k t ht
      have e0 := bcell hb e0 hg
      have e1 := bcell hb e1 hg
      have e2 := bcell hb e2 hg
      have e3 := bcell hb e3 hg
      have f0 := bcell hb f0 hg'
      have f1 := bcell hb f1 hg'
      have f2 := bcell hb f2 hg'
      have f3 := bcell hb f3 hg'
      have hkI : (k : Int) < (T.length : Int) := by omega
      have hk0 : (0 : Int) ≤ (k : Int) := by omega
      have HB := Lib.hid hb
      have HS : Hid (∀ X : World, Below w.heap.size w X → Calls Try.prog 26 #[tv, tv'] X (TruePost X)) := Lib.hid (fun X hX => sameTokens_any (hta.over hX) (htb.over hX))
      have htv : tv.oneCell' = true := by
        obtain ⟨a, cap, hv, -⟩ := hta
        rw [hv]
        rfl
      clear hb ht hta htb
      go_wp2
      go_still_tail 48, (by kernel_rfl)
      change wpList _ _ _ _ _ wr.drew
      have HB2 : Hid (Below w.heap.size w wr.drew) := Lib.hid HB.out.drew
      obtain ⟨w2, hw2⟩ : ∃ w2, wr.drew = w2 := ⟨_, rfl⟩
      rw [hw2] at HB2 ⊢
      clear hw2 e0 e1 e2 e3 f0 f1 f2 f3
      go_wp2_with (go_at_call 26; (with_reducible refine (HS.out _ HB2.out).mono ?_); rintro e w3 ⟨rfl, hb3⟩; have HB3 := Lib.hid hb3; clear hb3)
      go_roundw
      case rel => exact ⟨k + 1, by go_num, hlt, HB2.out.trans (HB3.out.mono HB2.out.size)⟩
      case measure => simp [intOf]; omega
    · have hkI : ¬ (k : Int) < (T.length : Int) := by omega
      go_wp2
      go_ret
      exact ⟨rfl, hb⟩

end Go.Proofs.Ytpnboieppkjfnaa
