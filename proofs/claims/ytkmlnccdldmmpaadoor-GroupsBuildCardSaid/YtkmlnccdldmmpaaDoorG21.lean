/-
  Texts of the proof, put together: GcTake.
-/
import Derived.Test.YtkmlnccdldmmpaaDoorG02
import Derived.Test.YtkmlnccdldmmpaaDoorG20
import Derived.Test.YtkmlnccdldmmpaaDoorG18

/-
  The builder's take: one line.
-/
namespace Go.Proofs.YtkmlnccdldmmpaaDoor
open Go.RowKit

theorem Bld.more {W : World} {bb : Nat} {c : Col} {d : Nat} {F : List (Fr × Fv)} {oa oc ca cn : Nat} {codes : List Int} {w : World} (h : Bld W bb c d F oa oc ca cn codes w) : Bld W bb c (d + 1) F oa oc ca cn codes w :=
  ⟨h.bel, h.low, h.box, h.cb, h.cod, h.opn, Nat.le_succ_of_le h.few, fun j f x hj => (h.frs j f x hj).more⟩

/-- The builder, so far. -/
def BldS (W : World) (bb d : Nat) (s : Bs) (n : Nat) (w : World) : Prop :=
  ∃ c F oa oc ca codes, Bld W bb c d F oa oc ca n codes w ∧ F.map Prod.fst = stackOf s ∧ CodesOk codes s
theorem BldS.over {W : World} {bb d : Nat} {s : Bs} {n : Nat} {w w' : World} (h : BldS W bb d s n w) (b : Below w.heap.size w w') : BldS W bb d s n w' := by
  obtain ⟨c, F, oa, oc, ca, codes, h1, h2⟩ := h
  exact ⟨c, F, oa, oc, ca, codes, h1.over b, h2⟩
theorem BldS.bel {W : World} {bb d : Nat} {s : Bs} {n : Nat} {w : World} (h : BldS W bb d s n w) : Below W.heap.size W w := by
  obtain ⟨c, F, oa, oc, ca, codes, h1, h2⟩ := h
  exact h1.bel
theorem BldS.more {W : World} {bb d : Nat} {s : Bs} {n : Nat} {w : World} (h : BldS W bb d s n w) : BldS W bb (d + 1) s n w := by
  obtain ⟨c, F, oa, oc, ca, codes, h1, h2⟩ := h
  exact ⟨c, F, oa, oc, ca, codes, h1.more, h2⟩
def TakenP (W : World) (bb d : Nat) (s : Bs) (n : Nat) (e : Ending) (w' : World) : Prop := e = .returned (.tuple #[]) ∧ BldS W bb d s n w'

theorem len_of_map {F : List (Fr × Fv)} {L : List Fr} (h : F.map Prod.fst = L) : F.length = L.length := by rw [← h, List.length_map]

theorem st_cases (s : Bs) : s.st = [] ∨ ∃ f r, s.st = f :: r := by
  cases s.st with
  | nil => exact .inl rfl
  | cons f r => exact .inr ⟨f, r, rfl⟩

section
variable {W : World} {bb d : Nat} {s : Bs} {n : Nat} {w : World} {i : Nat}

theorem m_begin (h : BldS W bb d s n w) (hd : d ≤ 200000) (hf : Fine s i) (hi : i < n) {k : Nat} (hk : 2 ≤ k ∧ k ≤ 4) (ne : Bool) : Calls Tryd.prog 70 #[.pointer (some ⟨bb, 0, none⟩), .int .i64 (i : Int)] w (TakenP W bb (d + 2) (stepB s i k ne) n) := by
  obtain ⟨c, F, oa, oc, ca, codes, h1, h2, h3⟩ := h
  refine (begin_any h1 (by omega) hi).mono ?_
  rintro e w' ⟨he, c', oa', oc', x', hb⟩
  refine ⟨he, BldS.more ⟨c', _, oa', oc', ca, _, hb, ?_, ?_⟩⟩
  · unfold stepB
    rw [if_pos hk, List.map_append, h2]
    simp [stackOf, newFr]
  · unfold stepB
    rw [if_pos hk]
    exact codes_open h3 hf _ rfl

theorem m_next (h : BldS W bb d s n w) (hd : d ≤ 200000) (hi : i < n) {k : Nat} (hk : k = 5 ∨ k = 6) (ne : Bool) : Calls Tryd.prog 71 #[.pointer (some ⟨bb, 0, none⟩), .int .i64 (i : Int), .bool (k == 6)] w (TakenP W bb (d + 2) (stepB s i k ne) n) := by
  obtain ⟨c, F, oa, oc, ca, codes, h1, h2, h3⟩ := h
  have e1 : stepB s i k ne = if s.st = [] ∨ endedB s = true then { s with bad := s.bad ++ [i] } else armB s i k := by
    unfold stepB
    rw [if_neg (by omega)]
    by_cases hs : s.st = []
    · rw [if_pos ⟨by omega, by omega, hs⟩, if_pos (Or.inl hs)]
    · rw [if_neg (fun h => hs h.2.2)]
      by_cases he : endedB s = true
      · rw [if_pos ⟨hk, he⟩, if_pos (Or.inr he)]
      · rw [if_neg (fun h => he h.2), if_pos hk, if_neg (fun h => h.elim hs he)]
  rw [e1]
  rcases st_cases s with hs | ⟨f, r, hs⟩
  · rw [stack_none hs] at h2
    obtain ⟨F0, x, rfl, hF0⟩ := map_snoc_inv h2
    have hF : F0 = [] := List.map_eq_nil_iff.1 hF0
    refine (next_no h1 hi (k == 6) (.inl hF)).mono ?_
    rintro e w' ⟨he, c', hb⟩
    rw [if_pos (Or.inl hs)]
    refine ⟨he, BldS.more (BldS.more ⟨c', _, oa, oc, ca, _, hb, ?_, codes_bad h3⟩)⟩
    rw [h2]
    exact (stack_none (s := { s with bad := s.bad ++ [i] }) hs).symm
  · have h2' := h2
    rw [stack_some hs] at h2
    obtain ⟨F0, x, rfl, hF0⟩ := map_snoc_inv h2
    have hF : F0 ≠ [] := fun e => by rw [e] at hF0; cases hF0
    have hen : endedB s = f.en := by unfold endedB; rw [hs]
    by_cases hfe : f.en = true
    · refine (next_no h1 hi (k == 6) (.inr hfe)).mono ?_
      rintro e w' ⟨he, c', hb⟩
      rw [if_pos (Or.inr (hen.trans hfe))]
      exact ⟨he, BldS.more (BldS.more ⟨c', _, oa, oc, ca, _, hb, h2', codes_bad h3⟩)⟩
    · have hfe' : f.en = false := by simpa using hfe
      refine (next_yes h1 (by omega) (k == 6) hF hfe').mono ?_
      rintro e w' ⟨he, c', x', hb⟩
      rw [if_neg (fun e => e.elim (fun e => by rw [hs] at e; cases e) (fun e => hfe (hen.symm.trans e)))]
      refine ⟨he, BldS.more ⟨c', _, oa, oc, ca, _, hb, ?_, codes_same h3 (bad_arm s i k) (arm_st s i k)⟩⟩
      have ha : armB s i k = { s with st := ⟨f.ln, f.dn ++ [((f.la : Int), f.cu)], i, [], k == 6⟩ :: r } := by unfold armB; rw [hs]
      rw [ha, List.map_append, hF0]
      simp [stackOf]

theorem m_close (h : BldS W bb d s n w) (hd : d ≤ 200000) (hf : Fine s i) (hi : i < n) (ne : Bool) : Calls Tryd.prog 72 #[.pointer (some ⟨bb, 0, none⟩), .int .i64 (i : Int)] w (TakenP W bb (d + 2) (stepB s i 7 ne) n) := by
  obtain ⟨c, F, oa, oc, ca, codes, h1, h2, h3⟩ := h
  have e1 : stepB s i 7 ne = if s.st = [] then { s with bad := s.bad ++ [i] } else closeB s := by
    unfold stepB
    rw [if_neg (by omega)]
    by_cases hs : s.st = []
    · rw [if_pos ⟨by omega, by omega, hs⟩, if_pos hs]
    · rw [if_neg (fun h => hs h.2.2), if_neg (fun h => by omega), if_neg (by omega), if_pos rfl, if_neg hs]
  rw [e1]
  rcases st_cases s with hs | ⟨f, r, hs⟩
  · rw [stack_none hs] at h2
    refine (close_no h1 hi (by rw [len_of_map h2]; rfl)).mono ?_
    rintro e w' ⟨he, c', hb⟩
    rw [if_pos hs]
    refine ⟨he, BldS.more (BldS.more ⟨c', _, oa, oc, ca, _, hb, ?_, codes_bad h3⟩)⟩
    rw [h2]
    exact (stack_none (s := { s with bad := s.bad ++ [i] }) hs).symm
  · rw [stack_some hs] at h2
    obtain ⟨F0, x, rfl, hF0⟩ := map_snoc_inv h2
    obtain ⟨L, a, hL⟩ := stack_ends { s with st := r }
    have hL' : baseFr s.ba :: r.reverse = L ++ [a] := hL
    rw [hL'] at hF0
    obtain ⟨F1, y, rfl, hF1⟩ := map_snoc_inv hF0
    refine (close_yes h1 (by omega) i (by have := hf.st f (by rw [hs]; simp); omega)).mono ?_
    rintro e w' ⟨he, c', y', hb⟩
    rw [if_neg (by rw [hs]; simp)]
    refine ⟨he, c', _, oa, oc, ca, _, hb, ?_, codes_shut h3 hf hs⟩
    have hc : closeB s = putB { s with st := r } (frItem f) := by unfold closeB; rw [hs]
    rw [hc, stack_put hL, List.map_append, hF1]
    rfl

theorem m_add (h : BldS W bb d s n w) (hd : d ≤ 200000) (k : Nat) : Calls Tryd.prog 73 #[.pointer (some ⟨bb, 0, none⟩), .agg #[.int .i64 (k : Int), .int .i64 (i : Int), .slice none 0 0]] w (TakenP W bb (d + 2) (putB s (.mk (k : Int) (i : Int) [])) n) := by
  obtain ⟨c, F, oa, oc, ca, codes, h1, h2, h3⟩ := h
  obtain ⟨L, a, hL⟩ := stack_ends s
  rw [hL] at h2
  obtain ⟨F0, x, rfl, hF0⟩ := map_snoc_inv h2
  have := add_any (it := .mk (k : Int) (i : Int) []) (aa := none) (an := 0) (ac := 0) h1 (by omega) ⟨none, 0, rfl, Nat.le_refl _, Nat.zero_le _, fun j x hx => by cases hx⟩
  refine Calls.mono this ?_
  rintro e w' ⟨he, c', x', hb⟩
  refine ⟨he, BldS.more ⟨c', _, oa, oc, ca, _, hb, ?_, codes_same h3 (bad_put s _) (put_st s _)⟩⟩
  rw [stack_put hL, List.map_append, hF0]
  rfl
end

set_option maxRecDepth 100000 in
set_option maxHeartbeats 6400000 in
theorem gtake_any {W : World} {bb d : Nat} {s : Bs} {n : Nat} {w : World} {i : Nat} (h : BldS W bb d s n w) (hd : d ≤ 200000) (hf : Fine s i) (hi : i < n) {T : List Xt} {tv : Value} (ht : ToksX T tv w) (hW : WordsAt 0 w) (h0 : 0 < w.heap.size) :
    Calls Tryd.prog 48 #[.pointer (some ⟨bb, 0, none⟩), .int .i64 (i : Int), tv] w (TakenP W bb (d + 2) (stepB s i (kindL T) (decide (T ≠ []))) n) := by
  have hK := kind_any ht hW h0
  obtain ⟨ta, tn, tc, rfl⟩ := ht.form
  have htn := ht.len.1
  obtain ⟨k, hk⟩ : ∃ k, kindL T = k := ⟨_, rfl⟩
  rw [hk] at hK ⊢
  have hcs : (2 ≤ k ∧ k ≤ 4) ∨ k = 5 ∨ k = 6 ∨ k = 7 ∨ (k < 2 ∨ 7 < k) := by omega
  rcases hcs with h24 | rfl | rfl | rfl | hoth
  · have HM : Hid (∀ X : World, Below w.heap.size w X → Calls Tryd.prog 70 #[.pointer (some ⟨bb, 0, none⟩), .int .i64 (i : Int)] X (TakenP W bb (d + 2) (stepB s i k (decide (T ≠ []))) n)) := Lib.hid (fun X b => m_begin (h.over b) hd hf hi h24 _)
    have hcs : k = 2 ∨ k = 3 ∨ k = 4 := by omega
    clear h ht htn hk h24
    rcases hcs with rfl | rfl | rfl
    all_goals
      have HK := Lib.hid hK
      clear hK
      go_enter Tryd.func48, Tryd.ntmps48
      go_wp2_with (first
        | (go_at_call 12; (with_reducible refine HK.out.mono ?_); rintro e w1 ⟨rfl, hb⟩; have HB := Lib.hid hb; clear hb)
        | (go_at_call 70; (with_reducible refine (HM.out _ HB.out).mono ?_); rintro e w2 ⟨rfl, hh⟩; have HF := Lib.hid hh; clear hh))
      go_end0
      exact ⟨rfl, HF.out⟩
  · have HM : Hid (∀ X : World, Below w.heap.size w X → Calls Tryd.prog 71 #[.pointer (some ⟨bb, 0, none⟩), .int .i64 (i : Int), .bool false] X (TakenP W bb (d + 2) (stepB s i 5 (decide (T ≠ []))) n)) := Lib.hid (fun X b => m_next (h.over b) hd hi (.inl rfl) _)
    have HK := Lib.hid hK
    clear h ht htn hk hK
    go_enter Tryd.func48, Tryd.ntmps48
    go_wp2_with (first
      | (go_at_call 12; (with_reducible refine HK.out.mono ?_); rintro e w1 ⟨rfl, hb⟩; have HB := Lib.hid hb; clear hb)
      | (go_at_call 71; (with_reducible refine (HM.out _ HB.out).mono ?_); rintro e w2 ⟨rfl, hh⟩; have HF := Lib.hid hh; clear hh))
    go_end0
    exact ⟨rfl, HF.out⟩
  · have HM : Hid (∀ X : World, Below w.heap.size w X → Calls Tryd.prog 71 #[.pointer (some ⟨bb, 0, none⟩), .int .i64 (i : Int), .bool true] X (TakenP W bb (d + 2) (stepB s i 6 (decide (T ≠ []))) n)) := Lib.hid (fun X b => m_next (h.over b) hd hi (.inr rfl) _)
    have HK := Lib.hid hK
    clear h ht htn hk hK
    go_enter Tryd.func48, Tryd.ntmps48
    go_wp2_with (first
      | (go_at_call 12; (with_reducible refine HK.out.mono ?_); rintro e w1 ⟨rfl, hb⟩; have HB := Lib.hid hb; clear hb)
      | (go_at_call 71; (with_reducible refine (HM.out _ HB.out).mono ?_); rintro e w2 ⟨rfl, hh⟩; have HF := Lib.hid hh; clear hh))
    go_end0
    exact ⟨rfl, HF.out⟩
  · have HM : Hid (∀ X : World, Below w.heap.size w X → Calls Tryd.prog 72 #[.pointer (some ⟨bb, 0, none⟩), .int .i64 (i : Int)] X (TakenP W bb (d + 2) (stepB s i 7 (decide (T ≠ []))) n)) := Lib.hid (fun X b => m_close (h.over b) hd hf hi _)
    have HK := Lib.hid hK
    clear h ht htn hk hK
    go_enter Tryd.func48, Tryd.ntmps48
    go_wp2_with (first
      | (go_at_call 12; (with_reducible refine HK.out.mono ?_); rintro e w1 ⟨rfl, hb⟩; have HB := Lib.hid hb; clear hb)
      | (go_at_call 72; (with_reducible refine (HM.out _ HB.out).mono ?_); rintro e w2 ⟨rfl, hh⟩; have HF := Lib.hid hh; clear hh))
    go_end0
    exact ⟨rfl, HF.out⟩
  · have HM : Hid (∀ X : World, Below w.heap.size w X → Calls Tryd.prog 73 #[.pointer (some ⟨bb, 0, none⟩), .agg #[.int .i64 (k : Int), .int .i64 (i : Int), .slice none 0 0]] X (TakenP W bb (d + 2) (putB s (.mk (k : Int) (i : Int) [])) n)) := Lib.hid (fun X b => m_add (h.over b) hd k)
    have e1 : stepB s i k (decide (T ≠ [])) = if k ≠ 0 ∨ T ≠ [] then putB s (.mk (k : Int) (i : Int) []) else s := by
      unfold stepB
      rw [if_neg (by omega), if_neg (by omega), if_neg (by omega), if_neg (by omega), if_neg (by omega)]
      simp only [decide_eq_true_eq]
    rw [e1]
    have k2 : ((k : Int) == 2) = false := by simp; omega
    have k3 : ((k : Int) == 3) = false := by simp; omega
    have k4 : ((k : Int) == 4) = false := by simp; omega
    have k5 : ((k : Int) == 5) = false := by simp; omega
    have k6 : ((k : Int) == 6) = false := by simp; omega
    have k7 : ((k : Int) == 7) = false := by simp; omega
    have HK := Lib.hid hK
    have HZ : Hid (BldS W bb d s n w) := Lib.hid h
    by_cases hT : T = []
    · have hk0 : k = 0 := by rw [← hk, hT]; rfl
      obtain rfl : tn = 0 := by rw [htn, hT]; rfl
      rw [if_neg (by simp [hk0, hT])]
      clear h ht htn hk hK hT hk0 e1 hoth
      go_enter Tryd.func48, Tryd.ntmps48
      go_wp2_with (first
        | (go_at_call 12; (with_reducible refine HK.out.mono ?_); rintro e w1 ⟨rfl, hb⟩; have HB := Lib.hid hb; clear hb))
      go_end0
      exact ⟨rfl, ((HZ.out.over HB.out).more).more⟩
    · have hpos : 0 < tn := by rw [htn]; exact List.length_pos_iff.2 hT
      rw [if_pos (Or.inr hT)]
      clear h ht htn hk hK hT e1 hoth
      go_enter Tryd.func48, Tryd.ntmps48
      go_wp2_with (first
        | (go_at_call 12; (with_reducible refine HK.out.mono ?_); rintro e w1 ⟨rfl, hb⟩; have HB := Lib.hid hb; clear hb)
        | (go_at_call 73; (with_reducible refine (HM.out _ HB.out).mono ?_); rintro e w2 ⟨rfl, hh⟩; have HF := Lib.hid hh; clear hh))
      go_end0
      exact ⟨rfl, HF.out⟩

end Go.Proofs.YtkmlnccdldmmpaaDoor
