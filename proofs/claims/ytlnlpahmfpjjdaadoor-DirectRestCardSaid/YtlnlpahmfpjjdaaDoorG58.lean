/-
  Texts of the proof, put together: LDKinds.
-/
import Derived.Test.YtlnlpahmfpjjdaaDoorG32

/-
  DirectKinds, walked.
-/
namespace Go.Proofs.YtlnlpahmfpjjdaaDoor
open Go.RowKit

set_option maxRecDepth 100000 in
set_option maxHeartbeats 6400000 in
theorem kinds_law {T : List Xt} {v : Value} (kd : Int) {W : World} (h : ToksX T v W) (hW : WordsAt 0 W) (h0 : 0 < W.heap.size) : Calls Tryd.prog 3 #[v, .int .i64 kd] W (TruePost W) := by
  obtain ⟨a, n, cap, rfl⟩ := h.form
  have HF : Hid (Calls Tryd.prog 10 #[.slice a n cap, .int .i64 60] W (BoolPost (fewB T 60) W)) := Lib.hid (few_any h 60 (by omega))
  have HA : Hid (∀ X : World, Below W.heap.size W X → Calls Tryd.prog 11 #[] X (TruePost X)) := Lib.hid (fun X b => awake7_any (hW.next b h0) (Nat.lt_of_lt_of_le h0 b.size))
  by_cases hf : fewB T 60 = true
  · obtain ⟨hl, hs⟩ := few_is hf
    rw [hf] at HF
    obtain ⟨K, hK⟩ : ∃ K : Int, ((kindL T : Nat) : Int) = K := ⟨_, rfl⟩
    obtain ⟨R, hR⟩ : ∃ R, restL T = R := ⟨_, rfl⟩
    obtain ⟨Z, hZ⟩ : ∃ Z, wordZ kd = Z := ⟨_, rfl⟩
    have HK : Hid (∀ X : World, Below W.heap.size W X → Calls Tryd.prog 12 #[.slice a n cap] X (IntNew K X)) := Lib.hid (fun X b => hK ▸ kind_any (h.over b) (hW.next b h0) (Nat.lt_of_lt_of_le h0 b.size))
    have HRK : Hid (∀ X : World, Below W.heap.size W X → Calls Tryd.prog 13 #[.slice a n cap] X (IntNew K X)) := Lib.hid (fun X b => hK ▸ rKind_any (h.over b))
    have HR : Hid (∀ X : World, Below W.heap.size W X → Calls Tryd.prog 15 #[.slice a n cap] X (ToksNew X R)) := Lib.hid (fun X b => hR ▸ rest_any (h.over b) (hW.next b h0) (Nat.lt_of_lt_of_le h0 b.size) (by omega) (fun t ht => by have := (hs t ht).2; omega))
    have HRR : Hid (∀ X : World, Below W.heap.size W X → Calls Tryd.prog 16 #[.slice a n cap] X (ToksNew X R)) := Lib.hid (fun X b => hR ▸ rRest_any (h.over b))
    have HW : Hid (∀ X : World, Below W.heap.size W X → Calls Tryd.prog 17 #[.int .i64 kd] X (StrNew Z X)) := Lib.hid (fun X b => hZ ▸ word_any kd (hW.next b h0))
    have HRW : Hid (∀ X : World, Calls Tryd.prog 18 #[.int .i64 kd] X (StrNew Z X)) := Lib.hid (fun X => hZ ▸ rWord_any kd X)
    have hz : (Z.toList == Z.toList) = true := by simp
    have hk : (K == K) = true := by simp
    clear h hW hf hl hs hK hR hZ
    go_enter Tryd.func3, Tryd.ntmps3
    go_wp2_with (first
      | (go_at_call 10; (with_reducible refine HF.out.mono ?_); rintro e w' ⟨rfl, rfl⟩)
      | (go_at_call 12; (with_reducible refine (HK.out _ (Below.refl _ _)).mono ?_); rintro e w1 ⟨rfl, hb⟩; have HB1 := Lib.hid hb; clear hb)
      | (go_at_call 13; (with_reducible refine (HRK.out _ HB1.out).mono ?_); rintro e w2 ⟨rfl, hb⟩; have HB2 := Lib.hid (below_up HB1.out hb); clear hb)
      | (go_at_call 15; (with_reducible refine (HR.out _ HB2.out).mono ?_); rintro e w3 ⟨a3, n3, c3, rfl, -, hx, hb⟩; have HX3 := Lib.hid hx; have HB3 := Lib.hid (below_up HB2.out hb); clear hb hx)
      | (go_at_call 16; (with_reducible refine (HRR.out _ HB3.out).mono ?_); rintro e w4 ⟨a4, n4, c4, rfl, -, hx, hb⟩; have HS4 := Lib.hid (sameToks_any (HX3.out.over hb) hx); have HB4 := Lib.hid (below_up HB3.out hb); clear hb hx)
      | (go_at_call 14; (with_reducible refine HS4.out.mono ?_); rintro e w5 ⟨rfl, hb⟩; have HB5 := Lib.hid (below_up HB4.out hb); clear hb)
      | (go_at_call 17; (with_reducible refine (HW.out _ HB5.out).mono ?_); rintro e w6 ⟨rfl, hb⟩; have HB6 := Lib.hid (below_up HB5.out hb); clear hb)
      | (go_at_call 18; (with_reducible refine (HRW.out _).mono ?_); rintro e w7 ⟨rfl, hb⟩; have HB7 := Lib.hid (below_up HB6.out hb); clear hb)
      | (go_at_call 11; (with_reducible refine (HA.out _ HB7.out).mono ?_); rintro e w8 ⟨rfl, hb⟩; have HB8 := Lib.hid (below_up HB7.out hb); clear hb))
    go_ret
    exact ⟨rfl, HB8.out⟩
  · have hf' : fewB T 60 = false := by simpa using hf
    rw [hf'] at HF
    clear h hW hf hf'
    go_enter Tryd.func3, Tryd.ntmps3
    go_wp2_with (first
      | (go_at_call 10; (with_reducible refine HF.out.mono ?_); rintro e w' ⟨rfl, rfl⟩)
      | (go_at_call 11; (with_reducible refine (HA.out _ (Below.refl _ _)).mono ?_); rintro e w8 ⟨rfl, hb⟩; have HB8 := Lib.hid hb; clear hb))
    go_ret
    exact ⟨rfl, HB8.out⟩

end Go.Proofs.YtlnlpahmfpjjdaaDoor
