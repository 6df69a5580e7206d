/-
  Texts of the proof, put together: GcTake, GcOver.
-/
import Derived.Test.YtlnlpahmfpjjdaaDoorG02
import Derived.Test.YtlnlpahmfpjjdaaDoorG24
import Derived.Test.YtlnlpahmfpjjdaaDoorG21
import Derived.Laws.MakeOwn
import Derived.BigRegion

/-
  The builder's take: one line.
-/
namespace Go.Proofs.YtlnlpahmfpjjdaaDoor
open Go.RowKit

theorem Bld.more {W : World} {bb : Nat} {c : Col} {d : Nat} {F : List (Fr × Fv)} {oa oc ca cn : Nat} {codes : List Int} {w : World} (h : Bld W bb c d F oa oc ca cn codes w) : Bld W bb c (d + 1) F oa oc ca cn codes w :=
  ⟨h.bel, h.low, h.box, h.cb, h.cod, h.opn, Nat.le_succ_of_le h.few, fun j f x hj => (h.frs j f x hj).more⟩

/-- The builder, so far. -/
def BldS (W : World) (bb d : Nat) (s : Bs) (n : Nat) (w : World) : Prop :=
  ∃ c F oa oc ca codes, Bld W bb c d F oa oc ca n codes w ∧ F.map Prod.fst = stackOf s ∧ CodesOk codes s
theorem BldS.over {W : World} {bb d : Nat} {s : Bs} {n : Nat} {w w' : World} (h : BldS W bb d s n w) (b : Below w.heap.size w w') : BldS W bb d s n w' := by
  obtain ⟨c, F, oa, oc, ca, codes, h1, h2⟩ := h
  exact ⟨c, F, oa, oc, ca, codes, h1.over b, h2⟩
theorem BldS.bel {W : World} {bb d : Nat} {s : Bs} {n : Nat} {w : World} (h : BldS W bb d s n w) : Below W.heap.size W w := by
  obtain ⟨c, F, oa, oc, ca, codes, h1, h2⟩ := h
  exact h1.bel
theorem BldS.more {W : World} {bb d : Nat} {s : Bs} {n : Nat} {w : World} (h : BldS W bb d s n w) : BldS W bb (d + 1) s n w := by
  obtain ⟨c, F, oa, oc, ca, codes, h1, h2⟩ := h
  exact ⟨c, F, oa, oc, ca, codes, h1.more, h2⟩
def TakenP (W : World) (bb d : Nat) (s : Bs) (n : Nat) (e : Ending) (w' : World) : Prop := e = .returned (.tuple #[]) ∧ BldS W bb d s n w'

theorem len_of_map {F : List (Fr × Fv)} {L : List Fr} (h : F.map Prod.fst = L) : F.length = L.length := by rw [← h, List.length_map]

theorem st_cases (s : Bs) : s.st = [] ∨ ∃ f r, s.st = f :: r := by
  cases s.st with
  | nil => exact .inl rfl
  | cons f r => exact .inr ⟨f, r, rfl⟩

section
variable {W : World} {bb d : Nat} {s : Bs} {n : Nat} {w : World} {i : Nat}

theorem m_begin (h : BldS W bb d s n w) (hd : d ≤ 200000) (hf : Fine s i) (hi : i < n) {k : Nat} (hk : 2 ≤ k ∧ k ≤ 4) (ne : Bool) : Calls Tryd.prog 71 #[.pointer (some ⟨bb, 0, none⟩), .int .i64 (i : Int)] w (TakenP W bb (d + 2) (stepB s i k ne) n) := by
  obtain ⟨c, F, oa, oc, ca, codes, h1, h2, h3⟩ := h
  refine (begin_any h1 (by omega) hi).mono ?_
  rintro e w' ⟨he, c', oa', oc', x', hb⟩
  refine ⟨he, BldS.more ⟨c', _, oa', oc', ca, _, hb, ?_, ?_⟩⟩
  · unfold stepB
    rw [if_pos hk, List.map_append, h2]
    simp [stackOf, newFr]
  · unfold stepB
    rw [if_pos hk]
    exact codes_open h3 hf _ rfl

theorem m_next (h : BldS W bb d s n w) (hd : d ≤ 200000) (hi : i < n) {k : Nat} (hk : k = 5 ∨ k = 6) (ne : Bool) : Calls Tryd.prog 72 #[.pointer (some ⟨bb, 0, none⟩), .int .i64 (i : Int), .bool (k == 6)] w (TakenP W bb (d + 2) (stepB s i k ne) n) := by
  obtain ⟨c, F, oa, oc, ca, codes, h1, h2, h3⟩ := h
  have e1 : stepB s i k ne = if s.st = [] ∨ endedB s = true then { s with bad := s.bad ++ [i] } else armB s i k := by
    unfold stepB
    rw [if_neg (by omega)]
    by_cases hs : s.st = []
    · rw [if_pos ⟨by omega, by omega, hs⟩, if_pos (Or.inl hs)]
    · rw [if_neg (fun h => hs h.2.2)]
      by_cases he : endedB s = true
      · rw [if_pos ⟨hk, he⟩, if_pos (Or.inr he)]
      · rw [if_neg (fun h => he h.2), if_pos hk, if_neg (fun h => h.elim hs he)]
  rw [e1]
  rcases st_cases s with hs | ⟨f, r, hs⟩
  · rw [stack_none hs] at h2
    obtain ⟨F0, x, rfl, hF0⟩ := map_snoc_inv h2
    have hF : F0 = [] := List.map_eq_nil_iff.1 hF0
    refine (next_no h1 hi (k == 6) (.inl hF)).mono ?_
    rintro e w' ⟨he, c', hb⟩
    rw [if_pos (Or.inl hs)]
    refine ⟨he, BldS.more (BldS.more ⟨c', _, oa, oc, ca, _, hb, ?_, codes_bad h3⟩)⟩
    rw [h2]
    exact (stack_none (s := { s with bad := s.bad ++ [i] }) hs).symm
  · have h2' := h2
    rw [stack_some hs] at h2
    obtain ⟨F0, x, rfl, hF0⟩ := map_snoc_inv h2
    have hF : F0 ≠ [] := fun e => by rw [e] at hF0; cases hF0
    have hen : endedB s = f.en := by unfold endedB; rw [hs]
    by_cases hfe : f.en = true
    · refine (next_no h1 hi (k == 6) (.inr hfe)).mono ?_
      rintro e w' ⟨he, c', hb⟩
      rw [if_pos (Or.inr (hen.trans hfe))]
      exact ⟨he, BldS.more (BldS.more ⟨c', _, oa, oc, ca, _, hb, h2', codes_bad h3⟩)⟩
    · have hfe' : f.en = false := by simpa using hfe
      refine (next_yes h1 (by omega) (k == 6) hF hfe').mono ?_
      rintro e w' ⟨he, c', x', hb⟩
      rw [if_neg (fun e => e.elim (fun e => by rw [hs] at e; cases e) (fun e => hfe (hen.symm.trans e)))]
      refine ⟨he, BldS.more ⟨c', _, oa, oc, ca, _, hb, ?_, codes_same h3 (bad_arm s i k) (arm_st s i k)⟩⟩
      have ha : armB s i k = { s with st := ⟨f.ln, f.dn ++ [((f.la : Int), f.cu)], i, [], k == 6⟩ :: r } := by unfold armB; rw [hs]
      rw [ha, List.map_append, hF0]
      simp [stackOf]

theorem m_close (h : BldS W bb d s n w) (hd : d ≤ 200000) (hf : Fine s i) (hi : i < n) (ne : Bool) : Calls Tryd.prog 73 #[.pointer (some ⟨bb, 0, none⟩), .int .i64 (i : Int)] w (TakenP W bb (d + 2) (stepB s i 7 ne) n) := by
  obtain ⟨c, F, oa, oc, ca, codes, h1, h2, h3⟩ := h
  have e1 : stepB s i 7 ne = if s.st = [] then { s with bad := s.bad ++ [i] } else closeB s := by
    unfold stepB
    rw [if_neg (by omega)]
    by_cases hs : s.st = []
    · rw [if_pos ⟨by omega, by omega, hs⟩, if_pos hs]
    · rw [if_neg (fun h => hs h.2.2), if_neg (fun h => by omega), if_neg (by omega), if_pos rfl, if_neg hs]
  rw [e1]
  rcases st_cases s with hs | ⟨f, r, hs⟩
  · rw [stack_none hs] at h2
    refine (close_no h1 hi (by rw [len_of_map h2]; rfl)).mono ?_
    rintro e w' ⟨he, c', hb⟩
    rw [if_pos hs]
    refine ⟨he, BldS.more (BldS.more ⟨c', _, oa, oc, ca, _, hb, ?_, codes_bad h3⟩)⟩
    rw [h2]
    exact (stack_none (s := { s with bad := s.bad ++ [i] }) hs).symm
  · rw [stack_some hs] at h2
    obtain ⟨F0, x, rfl, hF0⟩ := map_snoc_inv h2
    obtain ⟨L, a, hL⟩ := stack_ends { s with st := r }
    have hL' : baseFr s.ba :: r.reverse = L ++ [a] := hL
    rw [hL'] at hF0
    obtain ⟨F1, y, rfl, hF1⟩ := map_snoc_inv hF0
    refine (close_yes h1 (by omega) i (by have := hf.st f (by rw [hs]; simp); omega)).mono ?_
    rintro e w' ⟨he, c', y', hb⟩
    rw [if_neg (by rw [hs]; simp)]
    refine ⟨he, c', _, oa, oc, ca, _, hb, ?_, codes_shut h3 hf hs⟩
    have hc : closeB s = putB { s with st := r } (frItem f) := by unfold closeB; rw [hs]
    rw [hc, stack_put hL, List.map_append, hF1]
    rfl

theorem m_add (h : BldS W bb d s n w) (hd : d ≤ 200000) (k : Nat) : Calls Tryd.prog 74 #[.pointer (some ⟨bb, 0, none⟩), .agg #[.int .i64 (k : Int), .int .i64 (i : Int), .slice none 0 0]] w (TakenP W bb (d + 2) (putB s (.mk (k : Int) (i : Int) [])) n) := by
  obtain ⟨c, F, oa, oc, ca, codes, h1, h2, h3⟩ := h
  obtain ⟨L, a, hL⟩ := stack_ends s
  rw [hL] at h2
  obtain ⟨F0, x, rfl, hF0⟩ := map_snoc_inv h2
  have := add_any (it := .mk (k : Int) (i : Int) []) (aa := none) (an := 0) (ac := 0) h1 (by omega) ⟨none, 0, rfl, Nat.le_refl _, Nat.zero_le _, fun j x hx => by cases hx⟩
  refine Calls.mono this ?_
  rintro e w' ⟨he, c', x', hb⟩
  refine ⟨he, BldS.more ⟨c', _, oa, oc, ca, _, hb, ?_, codes_same h3 (bad_put s _) (put_st s _)⟩⟩
  rw [stack_put hL, List.map_append, hF0]
  rfl
end

set_option maxRecDepth 100000 in
set_option maxHeartbeats 6400000 in
theorem gtake_any {W : World} {bb d : Nat} {s : Bs} {n : Nat} {w : World} {i : Nat} (h : BldS W bb d s n w) (hd : d ≤ 200000) (hf : Fine s i) (hi : i < n) {T : List Xt} {tv : Value} (ht : ToksX T tv w) (hW : WordsAt 0 w) (h0 : 0 < w.heap.size) :
    Calls Tryd.prog 48 #[.pointer (some ⟨bb, 0, none⟩), .int .i64 (i : Int), tv] w (TakenP W bb (d + 2) (stepB s i (kindL T) (decide (T ≠ []))) n) := by
  have hK := kind_any ht hW h0
  obtain ⟨ta, tn, tc, rfl⟩ := ht.form
  have htn := ht.len.1
  obtain ⟨k, hk⟩ : ∃ k, kindL T = k := ⟨_, rfl⟩
  rw [hk] at hK ⊢
  have hcs : (2 ≤ k ∧ k ≤ 4) ∨ k = 5 ∨ k = 6 ∨ k = 7 ∨ (k < 2 ∨ 7 < k) := by omega
  rcases hcs with h24 | rfl | rfl | rfl | hoth
  · have HM : Hid (∀ X : World, Below w.heap.size w X → Calls Tryd.prog 71 #[.pointer (some ⟨bb, 0, none⟩), .int .i64 (i : Int)] X (TakenP W bb (d + 2) (stepB s i k (decide (T ≠ []))) n)) := Lib.hid (fun X b => m_begin (h.over b) hd hf hi h24 _)
    have hcs : k = 2 ∨ k = 3 ∨ k = 4 := by omega
    clear h ht htn hk h24
    rcases hcs with rfl | rfl | rfl
    all_goals
      have HK := Lib.hid hK
      clear hK
      go_enter Tryd.func48, Tryd.ntmps48
      go_wp2_with (first
        | (go_at_call 12; (with_reducible refine HK.out.mono ?_); rintro e w1 ⟨rfl, hb⟩; have HB := Lib.hid hb; clear hb)
        | (go_at_call 71; (with_reducible refine (HM.out _ HB.out).mono ?_); rintro e w2 ⟨rfl, hh⟩; have HF := Lib.hid hh; clear hh))
      go_end0
      exact ⟨rfl, HF.out⟩
  · have HM : Hid (∀ X : World, Below w.heap.size w X → Calls Tryd.prog 72 #[.pointer (some ⟨bb, 0, none⟩), .int .i64 (i : Int), .bool false] X (TakenP W bb (d + 2) (stepB s i 5 (decide (T ≠ []))) n)) := Lib.hid (fun X b => m_next (h.over b) hd hi (.inl rfl) _)
    have HK := Lib.hid hK
    clear h ht htn hk hK
    go_enter Tryd.func48, Tryd.ntmps48
    go_wp2_with (first
      | (go_at_call 12; (with_reducible refine HK.out.mono ?_); rintro e w1 ⟨rfl, hb⟩; have HB := Lib.hid hb; clear hb)
      | (go_at_call 72; (with_reducible refine (HM.out _ HB.out).mono ?_); rintro e w2 ⟨rfl, hh⟩; have HF := Lib.hid hh; clear hh))
    go_end0
    exact ⟨rfl, HF.out⟩
  · have HM : Hid (∀ X : World, Below w.heap.size w X → Calls Tryd.prog 72 #[.pointer (some ⟨bb, 0, none⟩), .int .i64 (i : Int), .bool true] X (TakenP W bb (d + 2) (stepB s i 6 (decide (T ≠ []))) n)) := Lib.hid (fun X b => m_next (h.over b) hd hi (.inr rfl) _)
    have HK := Lib.hid hK
    clear h ht htn hk hK
    go_enter Tryd.func48, Tryd.ntmps48
    go_wp2_with (first
      | (go_at_call 12; (with_reducible refine HK.out.mono ?_); rintro e w1 ⟨rfl, hb⟩; have HB := Lib.hid hb; clear hb)
      | (go_at_call 72; (with_reducible refine (HM.out _ HB.out).mono ?_); rintro e w2 ⟨rfl, hh⟩; have HF := Lib.hid hh; clear hh))
    go_end0
    exact ⟨rfl, HF.out⟩
  · have HM : Hid (∀ X : World, Below w.heap.size w X → Calls Tryd.prog 73 #[.pointer (some ⟨bb, 0, none⟩), .int .i64 (i : Int)] X (TakenP W bb (d + 2) (stepB s i 7 (decide (T ≠ []))) n)) := Lib.hid (fun X b => m_close (h.over b) hd hf hi _)
    have HK := Lib.hid hK
    clear h ht htn hk hK
    go_enter Tryd.func48, Tryd.ntmps48
    go_wp2_with (first
      | (go_at_call 12; (with_reducible refine HK.out.mono ?_); rintro e w1 ⟨rfl, hb⟩; have HB := Lib.hid hb; clear hb)
      | (go_at_call 73; (with_reducible refine (HM.out _ HB.out).mono ?_); rintro e w2 ⟨rfl, hh⟩; have HF := Lib.hid hh; clear hh))
    go_end0
    exact ⟨rfl, HF.out⟩
  · have HM : Hid (∀ X : World, Below w.heap.size w X → Calls Tryd.prog 74 #[.pointer (some ⟨bb, 0, none⟩), .agg #[.int .i64 (k : Int), .int .i64 (i : Int), .slice none 0 0]] X (TakenP W bb (d + 2) (putB s (.mk (k : Int) (i : Int) [])) n)) := Lib.hid (fun X b => m_add (h.over b) hd k)
    have e1 : stepB s i k (decide (T ≠ [])) = if k ≠ 0 ∨ T ≠ [] then putB s (.mk (k : Int) (i : Int) []) else s := by
      unfold stepB
      rw [if_neg (by omega), if_neg (by omega), if_neg (by omega), if_neg (by omega), if_neg (by omega)]
      simp only [decide_eq_true_eq]
    rw [e1]
    have k2 : ((k : Int) == 2) = false := by simp; omega
    have k3 : ((k : Int) == 3) = false := by simp; omega
    have k4 : ((k : Int) == 4) = false := by simp; omega
    have k5 : ((k : Int) == 5) = false := by simp; omega
    have k6 : ((k : Int) == 6) = false := by simp; omega
    have k7 : ((k : Int) == 7) = false := by simp; omega
    have HK := Lib.hid hK
    have HZ : Hid (BldS W bb d s n w) := Lib.hid h
    by_cases hT : T = []
    · have hk0 : k = 0 := by rw [← hk, hT]; rfl
      obtain rfl : tn = 0 := by rw [htn, hT]; rfl
      rw [if_neg (by simp [hk0, hT])]
      clear h ht htn hk hK hT hk0 e1 hoth
      go_enter Tryd.func48, Tryd.ntmps48
      go_wp2_with (first
        | (go_at_call 12; (with_reducible refine HK.out.mono ?_); rintro e w1 ⟨rfl, hb⟩; have HB := Lib.hid hb; clear hb))
      go_end0
      exact ⟨rfl, ((HZ.out.over HB.out).more).more⟩
    · have hpos : 0 < tn := by rw [htn]; exact List.length_pos_iff.2 hT
      rw [if_pos (Or.inr hT)]
      clear h ht htn hk hK hT e1 hoth
      go_enter Tryd.func48, Tryd.ntmps48
      go_wp2_with (first
        | (go_at_call 12; (with_reducible refine HK.out.mono ?_); rintro e w1 ⟨rfl, hb⟩; have HB := Lib.hid hb; clear hb)
        | (go_at_call 74; (with_reducible refine (HM.out _ HB.out).mono ?_); rintro e w2 ⟨rfl, hh⟩; have HF := Lib.hid hh; clear hh))
      go_end0
      exact ⟨rfl, HF.out⟩

end Go.Proofs.YtlnlpahmfpjjdaaDoor

/-
  The builder's beginning, walked.
-/
namespace Go.Proofs.YtlnlpahmfpjjdaaDoor
open Go.RowKit

theorem made_list (z : Value) (n : Nat) : (madeCells #[z] n).toList = List.replicate n z := by
  unfold madeCells
  rw [Array.toList_map, Array.toList_range]
  have : (fun k : Nat => (#[z] : Array Value)[k % (#[z] : Array Value).size]!) = fun _ => z := by
    funext k
    simp [Nat.mod_one]
  rw [this, List.map_const', List.length_range]

theorem make_arm : ∀ W : World, (Instr.makeSlice 64 (.int .i64 1) (.int .i64 1)).run Tryd.prog W = .ok (.slice (some ⟨W.heap.size, 0, none⟩) 1 1) (W.alloc (.cells #[.int .i64 0, .slice none 0 0] 68)) := by
  intro W
  obtain ⟨i0, hi, hz0, hz1, hz2⟩ := info_parts Tryd.infoArmG
  have := run_make (P := Tryd.prog) W 64 68 i0 _ Tryd.underlying64 hi hz0 .i64 .i64 1 1 (by omega) (by omega) (by rw [hz2]; omega) (by omega)
  have e : madeCells (Value.agg #[.int .i64 0, .slice none 0 0]).cells 2 = #[.int .i64 0, .slice none 0 0] := by
    unfold madeCells Value.cells
    apply Array.ext'
    rw [Array.toList_map, Array.toList_range]
    rfl
  rw [this, hz1, show Int.toNat 1 * 2 = 2 from rfl, e]
  rfl
theorem make_ints (n : Nat) (hn : n ≤ 100000) : ∃ cz : Array Value, cz.toList = List.replicate n (.int .i64 0) ∧ ∀ W : World, (Instr.makeSlice 54 (.int .i64 (n : Int)) (.int .i64 (n : Int))).run Tryd.prog W = .ok (.slice (some ⟨W.heap.size, 0, none⟩) n n) (W.alloc (.cells cz 3)) := by
  refine ⟨madeCells #[.int .i64 0] n, made_list _ _, fun W => ?_⟩
  obtain ⟨i0, hi, hz0, hz1, hz2⟩ := info_parts Tryd.infoNum
  have := run_make (P := Tryd.prog) W 54 3 i0 _ Tryd.underlying54 hi hz0 .i64 .i64 n n (by omega) (by omega) (by rw [hz2]; omega) (by omega)
  rw [this, hz1]
  simp
  rfl

theorem four (w : World) (o0 o1 o2 o3 : Obj) : ((((w.alloc o0).alloc o1).alloc o2).alloc o3).drew.heap[w.heap.size]? = some o0 ∧ ((((w.alloc o0).alloc o1).alloc o2).alloc o3).drew.heap[w.heap.size + 1]? = some o1 ∧ ((((w.alloc o0).alloc o1).alloc o2).alloc o3).drew.heap[w.heap.size + 1 + 1]? = some o2 ∧ ((((w.alloc o0).alloc o1).alloc o2).alloc o3).drew.heap[w.heap.size + 1 + 1 + 1]? = some o3 ∧ Below w.heap.size w ((((w.alloc o0).alloc o1).alloc o2).alloc o3).drew := by
  have h0 := heap_alloc_new w o0
  have h1 := heap_alloc_new (w.alloc o0) o1
  have h2 := heap_alloc_new ((w.alloc o0).alloc o1) o2
  have h3 := heap_alloc_new (((w.alloc o0).alloc o1).alloc o2) o3
  simp only [World.size_alloc] at h1 h2 h3
  have k1 : ∀ {g : Nat} {o : Obj}, g < w.heap.size + 1 → (w.alloc o0).heap[g]? = some o → ((((w.alloc o0).alloc o1).alloc o2).alloc o3).heap[g]? = some o := fun hg h => by
    rw [heap_alloc_old _ _ (by simp; omega), heap_alloc_old _ _ (by simp; omega), heap_alloc_old _ _ (by simp; omega)]
    exact h
  have k2 : ∀ {g : Nat} {o : Obj}, g < w.heap.size + 2 → ((w.alloc o0).alloc o1).heap[g]? = some o → ((((w.alloc o0).alloc o1).alloc o2).alloc o3).heap[g]? = some o := fun hg h => by
    rw [heap_alloc_old _ _ (by simp; omega), heap_alloc_old _ _ (by simp; omega)]
    exact h
  exact ⟨k1 (by omega) h0, k2 (by omega) h1, (heap_alloc_old _ _ (by simp)).trans h2, h3, (((((Below.refl _ _).alloc (Nat.le_refl _) _).alloc (by simp) _).alloc (by simp; omega) _).alloc (by simp; omega) _).drew⟩

/-- A builder, new, wherever its blocks came up. -/
theorem bld_new {w w' : World} (hb : Below w.heap.size w w') {n ga go gc gb : Nat} {cz : Array Value} (hn : n ≤ 100000) (hcz : cz.toList = List.replicate n (.int .i64 0))
    (ha : w'.heap[ga]? = some (.cells #[.int .i64 0, .slice none 0 0] 68 (0, 0))) (ho : w'.heap[go]? = some (.cells #[.int .i64 0, .int .i64 0, .slice (some ⟨ga, 0, none⟩) 1 1, .bool false] 117 (0, 0)))
    (hc : w'.heap[gc]? = some (.cells cz 3 (0, 0))) (hx : w'.heap[gb]? = some (.cells #[.slice (some ⟨go, 0, none⟩) 1 1, .slice (some ⟨gc, 0, none⟩) n n] 120 (0, 0)))
    (l1 : w.heap.size ≤ ga) (l2 : w.heap.size ≤ go) (l3 : w.heap.size ≤ gc) (l4 : w.heap.size ≤ gb) (d1 : ga ≠ go) (d2 : ga ≠ gc) (d3 : ga ≠ gb) (d4 : go ≠ gc) (d5 : go ≠ gb) (d6 : gc ≠ gb) : BldS w gb 0 bs0 n w' := by
  have hsz : cz.size = n * 1 := by rw [← Array.length_toList, hcz, List.length_replicate, Nat.mul_one]
  refine ⟨fun g => if g = gb then 0 else if g = gc then 1 else if g = go then 2 else 3, [(baseFr [], ⟨0, [], [], none, 0, 0, ga, 1⟩)], go, 1, gc, List.replicate n 0, ⟨hb, l4, hx, if_pos rfl, ⟨⟨by simp [ivals], .inr ⟨gc, n, cz, rfl, l3, hc, Nat.le_refl _, by unfold maxLen; omega, hsz, ?_⟩⟩, ?_⟩, ⟨⟨rfl, .inr ⟨go, 1, _, rfl, l2, ho, Nat.le_refl _, by unfold maxLen; omega, rfl, rfl⟩⟩, ?_⟩, Nat.le_refl _, ?_⟩, rfl, ?_⟩
  · rw [hcz, List.take_of_length_le (by simp)]
    unfold ivals
    rw [List.map_replicate]
  · intro g hg
    simp only [Value.ownBlock, Option.some.injEq] at hg
    subst hg
    simp [d6]
  · intro g hg
    simp only [Value.ownBlock, Option.some.injEq] at hg
    subst hg
    simp [d4, d5]
  · intro j f x hj
    match j, hj with
    | 0, hj =>
      simp only [List.getElem?_cons_zero, Option.some.injEq, Prod.mk.injEq] at hj
      obtain ⟨rfl, rfl⟩ := hj
      refine ⟨rfl, rfl, fun h => absurd rfl h, Nat.le_refl _, Nat.le_refl _, lev_nil _ _ _ _ _ _, ⟨⟨rfl, .inr ⟨ga, 1, _, rfl, l1, ha, Nat.le_refl _, by unfold maxLen; omega, rfl, rfl⟩⟩, ?_⟩, fun q hq => by cases hq⟩
      intro g hg
      simp only [Value.ownBlock, Option.some.injEq] at hg
      subst hg
      simp [d1, d2, d3]
  · intro i z hz
    have := List.mem_replicate.1 (List.mem_of_getElem? hz)
    rw [this.2]
    rfl

def NewB (w : World) (n : Nat) (e : Ending) (w' : World) : Prop := ∃ bb, e = .returned (.pointer (some ⟨bb, 0, none⟩)) ∧ BldS w bb 0 bs0 n w'

set_option maxRecDepth 100000 in
set_option maxHeartbeats 6400000 in
theorem gover_any (n : Nat) (hn : n ≤ 100000) (w : World) : Calls Tryd.prog 47 #[.int .i64 (n : Int)] w (NewB w n) := by
  obtain ⟨cz, hcz, hmi⟩ := make_ints n hn
  have hma := make_arm
  have HZ := Lib.hid hcz
  clear hcz
  go_enter Tryd.func47, Tryd.ntmps47
  go_wp2
  go_region
  all_goals go_wp2
  all_goals go_ret
  all_goals
    obtain ⟨q0, q1, q2, q3, hb⟩ := four w _ _ _ _
    first
      | exact ⟨_, rfl, bld_new hb hn HZ.out q0 q2 q1 q3 (by omega) (by omega) (by omega) (by omega) (by omega) (by omega) (by omega) (by omega) (by omega) (by omega)⟩
      | exact ⟨_, rfl, bld_new hb hn HZ.out q1 q2 q0 q3 (by omega) (by omega) (by omega) (by omega) (by omega) (by omega) (by omega) (by omega) (by omega) (by omega)⟩
      | exact ⟨_, rfl, bld_new hb hn HZ.out q0 q1 q2 q3 (by omega) (by omega) (by omega) (by omega) (by omega) (by omega) (by omega) (by omega) (by omega) (by omega)⟩

end Go.Proofs.YtlnlpahmfpjjdaaDoor
