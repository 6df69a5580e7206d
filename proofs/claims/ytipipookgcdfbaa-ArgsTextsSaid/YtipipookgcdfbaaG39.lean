/-
  Texts of the proof, put together: AgCloned, AgJoined, AgFitP, AgFit.
-/
import Derived.Test.YtipipookgcdfbaaG38
import Derived.StillTailTactics

/-
  Rows cloned, and rows joined: the project's cloned and joined, walked.
-/
namespace Go.Proofs.Ytipipookgcdfbaa
open Go.RowKit

def ClonedPost (W : World) (A : List (List Xt)) (e : Ending) (w' : World) : Prop := ∃ a n c, e = .returned (.slice a n c) ∧ n = A.length ∧ CR W A [] a n c none 0 0 w'

def CdRel (w : World) (A : List (List Xt)) (n : Nat) (t11 : Value) (wr : World) : Prop :=
  ∃ k : Nat, t11 = .int .i64 (k : Int) ∧ k ≤ n ∧ CR w (A.take k ++ List.replicate (n - k) []) [] (some ⟨w.heap.size, 0, none⟩) n n none 0 0 wr
theorem CR.cell_at {W : World} {ls : List (List Xt)} {cs : List Xt} {b nl cl : Nat} {ac : Option Addr} {nc cc : Nat} {w : World} (h : CR W ls cs (some ⟨b, 0, none⟩) nl cl ac nc cc w) {k : Nat} (hk : k < nl) : ∃ u, w.cell? ⟨b, k, none⟩ = some u := by
  obtain ⟨⟨V, -, ho, -⟩, -, -⟩ := h
  obtain ⟨a, cap, hv, -, -, hc⟩ := row_form ho
  have hl := ho.1
  obtain ⟨g, hg, -, hcell⟩ := hc k _ (List.getElem?_eq_getElem (by omega))
  simp only [Value.slice.injEq] at hv
  rw [hg] at hv
  simp only [Option.some.injEq, Addr.mk.injEq, and_true] at hv
  rw [hv.1]
  exact ⟨_, hcell⟩
theorem put_next {A : List (List Xt)} {k n : Nat} {T : List Xt} (hT : A[k]? = some T) (hk : k < n) : (A.take k ++ List.replicate (n - k) []).set k T = A.take (k + 1) ++ List.replicate (n - (k + 1)) [] := by
  have hl := (List.getElem?_eq_some_iff.1 hT).1
  rw [take_next hT, List.set_append_right _ _ (by rw [List.length_take]; omega), List.length_take, Nat.min_eq_left (by omega), Nat.sub_self, show n - k = (n - (k + 1)) + 1 from by omega, List.replicate_succ]
  simp

set_option maxRecDepth 100000 in
set_option maxHeartbeats 6400000 in
theorem cloned_any {A : List (List Xt)} {v : Value} {w : World} (h : RowsX A v w) (hA : A.length ≤ 300000) (hT : ∀ T ∈ A, T.length ≤ 500000) (hS : ∀ T ∈ A, ∀ t ∈ T, t.ss.length ≤ 500000) : Calls Try.prog 32 #[v] w (ClonedPost w A) := by
  obtain ⟨a, n, cap, rfl⟩ := h.form
  obtain ⟨hn, hc1, hc2, -⟩ := h.len
  unfold maxLen at hc2
  obtain ⟨cz, hcz, hmake⟩ := make_rows n (by omega)
  have HMD : Hid (CR w (List.replicate n []) [] (some ⟨w.heap.size, 0, none⟩) n n none 0 0 (w.alloc (.cells cz 22))) := Lib.hid (CR.made w n hcz (by omega))
  have H := Lib.hid h
  have HN := Lib.hid hn
  have HT := Lib.hid hT
  have HS := Lib.hid hS
  have hn3 : n ≤ 300000 := by omega
  clear h hn hcz hT hS hA
  go_enter Try.func32, Try.ntmps32
  go_wp2
  clear hmake
  go_loopw [11] (CdRel w A n) (fun i _ => n - (intOf i).toNat)
  case atStart => exact ⟨0, rfl, Nat.zero_le _, HMD.out⟩
  case round =>
    obtain ⟨k, rfl, hk, hC⟩ := hrel
    have HC := Lib.hid hC
    clear hC
    by_cases hlt : k < n
    · obtain ⟨T, ht⟩ : ∃ T, A[k]? = some T := ⟨_, List.getElem?_eq_getElem (by have := HN.out; omega)⟩
      obtain ⟨g, o, b1, m1, c1, rfl, hg, e0, -, hx1⟩ := H.out.get ht
      have HBW := Lib.hid HC.out.bel
      have e0 := bcell HBW.out e0 hg
      have hmem := List.mem_of_getElem? ht
      have HCL : Hid (∀ X : World, Below w.heap.size w X → Calls Try.prog 29 #[.slice b1 m1 c1] X (ToksHeld X T)) := Lib.hid (fun X hX => tclone_held (hx1.over hX) (HT.out T hmem) (HS.out T hmem))
      have HPN : Hid ((A.take k ++ List.replicate (n - k) []).set k T = A.take (k + 1) ++ List.replicate (n - (k + 1)) []) := Lib.hid (put_next ht hlt)
      have hkI : (k : Int) < (n : Int) := by omega
      have hk0 : (0 : Int) ≤ (k : Int) := by omega
      clear ht hx1 hmem
      go_wp2_with (go_at_call 29; (with_reducible refine (HCL.out _ HBW.out).mono ?_); rintro e w3 ⟨a3, n3, c3, rfl, -, hz3, hh3, hb3⟩; (have HC3 := Lib.hid ((HC.out.over hb3).setL k (HC.out.young (w' := w3) hh3) hz3)); (have z3 : ∀ j, w3.frozen? ⟨w.heap.size, j, none⟩ = false := fun j => by obtain ⟨V, -, ho, -⟩ := (HC.out.over hb3).list; exact own_freeX ho j); obtain ⟨u3, q3⟩ := (HC.out.over hb3).cell_at hlt; clear hb3 hh3 hz3 e0)
      go_roundw
      case rel => exact ⟨k + 1, by go_num, hlt, by rw [← HPN.out]; exact HC3.out⟩
      case measure => simp [intOf]; omega
    · obtain rfl : k = n := by omega
      have hkI : ¬ (k : Int) < (k : Int) := by omega
      have HCE : Hid (CR w A [] (some ⟨w.heap.size, 0, none⟩) k k none 0 0 wr) := Lib.hid (by
        have h := HC.out
        rw [Nat.sub_self, List.take_of_length_le (by have := HN.out; omega)] at h
        simpa using h)
      go_wp2
      go_ret
      exact ⟨_, _, _, rfl, HN.out, HCE.out⟩

end Go.Proofs.Ytipipookgcdfbaa

/-
  Rows joined: the project's joined, walked.
-/
namespace Go.Proofs.Ytipipookgcdfbaa
open Go.RowKit

def JnRel (w : World) (A : List (List Xt)) (C : List Xt) (n : Nat) (t5 t10 : Value) (wr : World) : Prop :=
  ∃ (k : Nat) (cs : List Xt) (ac : Option Addr) (nc cc : Nat), t5 = .slice ac nc cc ∧ t10 = .int .i64 (k : Int) ∧ k ≤ n ∧ nc = cs.length ∧ CR w [] cs none 0 0 ac nc cc wr ∧ weaveL A C = cs ++ (if k = 0 then weaveL A C else restA A C k)

set_option maxRecDepth 100000 in
set_option maxHeartbeats 6400000 in
theorem joined_any {A : List (List Xt)} {C : List Xt} {v cv : Value} {w : World} (h : RowsX A v w) (hC : ToksX C cv w) (hl : C.length = A.length - 1) (hA : A.length ≤ 300000) (hW : (weaveL A C).length ≤ 500000) (hS : ∀ t ∈ weaveL A C, t.ss.length ≤ 500000) : Calls Try.prog 31 #[v, cv] w (ToksHeld w (weaveL A C)) := by
  obtain ⟨a, n, cap, rfl⟩ := h.form
  obtain ⟨ca, cn, ccap, rfl⟩ := hC.form
  obtain ⟨hn, hc1, hc2, -⟩ := h.len
  obtain ⟨hcn, hcc1, hcc2⟩ := hC.len
  unfold maxLen at hc2 hcc2
  have H := Lib.hid h
  have HCM := Lib.hid hC
  have HN := Lib.hid hn
  have HCN := Lib.hid hcn
  have HL := Lib.hid hl
  have HWL := Lib.hid hW
  have HS := Lib.hid hS
  have hn3 : n ≤ 300000 := by omega
  clear h hC hn hcn hl hA hW hS
  go_enter Try.func31, Try.ntmps31
  go_wp2
  go_loopw [5, 10] (JnRel w A C n) (fun _ i _ => n - (intOf i).toNat)
  case atStart => exact ⟨0, [], none, 0, 0, rfl, rfl, Nat.zero_le _, rfl, CR.nil w, by rw [if_pos rfl]; rfl⟩
  case round =>
    obtain ⟨k, cs, ac, nc, cc, rfl, rfl, hk, hnc, hCR, hE⟩ := hrel
    have HC := Lib.hid hCR
    have HE := Lib.hid hE
    have HNC := Lib.hid hnc
    clear hCR hE hnc
    have HBW := Lib.hid HC.out.bel
    have hcs : cs.length ≤ 500000 := by
      have h := congrArg List.length HE.out
      rw [List.length_append] at h
      have := HWL.out
      omega
    by_cases hlt : k < n
    · obtain ⟨T, ht⟩ : ∃ T, A[k]? = some T := ⟨_, List.getElem?_eq_getElem (by have := HN.out; omega)⟩
      obtain ⟨g, o, b1, m1, c1, rfl, hg, e0, hz1, hx1⟩ := H.out.get ht
      obtain ⟨P, hP, hpv⟩ := hx1.pv hz1
      have hm1 := hpv.len.1
      have HPV := Lib.hid hpv
      have HPT := Lib.hid hP
      have e0 := bcell HBW.out e0 hg
      have hkI : (k : Int) < (n : Int) := by omega
      have hk0 : (0 : Int) ≤ (k : Int) := by omega
      have HT := Lib.hid ht
      have HSP : Hid (∀ (al ac : Option Addr) (ls : List (List Xt)) (cs : List Xt) (nl cl nc cc : Nat) (X : World), CR w ls cs al nl cl ac nc cc X → ∀ p ∈ P, HeldIn (NotHot al ac) X (SitsA p.1.ss p.2)) := Lib.hid (fun al ac ls cs nl cl nc cc X hX p hp => hX.old ((hpv.sits p hp).held (P := fun _ => True) fun _ _ h => (h trivial).elim))
      have HM : Hid (m1 = P.length ∧ m1 = T.length) := Lib.hid ⟨hm1, by rw [hm1, ← hP, List.length_map]⟩
      clear hz1 hx1 hP hpv hm1 ht
      by_cases h0 : k = 0
      · subst h0
        rw [Nat.add_zero] at e0
        have HEN : Hid (weaveL A C = (cs ++ T) ++ restA A C 1) := Lib.hid (by
          have h := HE.out
          rw [if_pos rfl] at h
          have hcs0 : cs = [] := by
            have hh := congrArg List.length h
            rw [List.length_append] at hh
            exact List.eq_nil_of_length_eq_zero (by omega)
          have h2 := weave_at HL.out HT.out
          rw [List.drop_zero, List.drop_zero] at h2
          rw [hcs0, List.nil_append, h2])
        have hsum : nc + m1 ≤ 1000000 := by
          have h := congrArg List.length HEN.out
          rw [List.length_append, List.length_append] at h
          have := HWL.out; have := HNC.out; have := HM.out.2
          omega
        go_wp2_with (at_builtin; refine wpList_append_ex rfl (.tmp 31) (.tmp 32) 22 rfl _ (CR.pushCs (P := P) HC.out (HSP.out _ _ _ _ _ _ _ _ _ HC.out) (HPV.out.over HBW.out).src hsum) ?_; rintro v9 w9 ⟨a9, c9, rfl, h9, -⟩; have HC9 := Lib.hid h9; clear h9 e0)
        go_roundw
        case rel => exact ⟨1, cs ++ T, a9, nc + m1, c9, rfl, rfl, hlt, by rw [List.length_append, HNC.out, HM.out.2], by have h := HC9.out; rw [HPT.out] at h; exact h, by rw [if_neg (by omega)]; exact HEN.out⟩
        case measure => simp [intOf]; omega
      · obtain ⟨c, hc⟩ : ∃ c, C[k - 1]? = some c := ⟨_, List.getElem?_eq_getElem (by have := HL.out; have := HN.out; omega)⟩
        obtain ⟨g2, o2, sa, sn, sc, rfl, hg2, -, hx2, hs2⟩ := HCM.out.get hc
        obtain ⟨y0, y1, y2, y3, y4, y5, y6, y7⟩ := hx2.next HBW.out hg2
        have HSA := Lib.hid (hs2.held (P := fun _ => True) fun _ _ h => (h trivial).elim)
        have HEN : Hid (weaveL A C = ((cs ++ [c]) ++ T) ++ restA A C (k + 1)) := Lib.hid (by
          have h := HE.out
          rw [if_neg h0, rest_at HL.out HT.out hc] at h
          rw [h]
          simp)
        have hsum : nc + 1 + m1 ≤ 1000000 := by
          have h := congrArg List.length HEN.out
          simp only [List.length_append, List.length_cons, List.length_nil] at h
          have := HWL.out; have := HNC.out; have := HM.out.2
          omega
        have hkp : (0 : Int) < (k : Int) := by omega
        have hkc : (k : Int) ≤ (cn : Int) := by have := HL.out; have := HN.out; have := HCN.out; omega
        have hkd : (k : Int) - 1 < (cn : Int) := by omega
        have hke : (1 : Int) ≤ (k : Int) := by omega
        have hkf : (0 : Int) ≤ (k : Int) - 1 := by omega
        have hkg : ((k : Int) - 1).toNat = k - 1 := by omega
        clear hx2 hs2 hc h0
        go_wp2_with (first
          | (at_builtin; refine wpList_append_sl rfl (.tmp 23) (.tmp 29) 22 rfl _ (CR.pushC (t := c) (b0 := sa) (n0 := sn) (c0 := sc) (HC.out.over ((Below.refl _ _).alloc (Nat.le_refl _) _)) ((HC.out.over ((Below.refl _ _).alloc (Nat.le_refl _) _)).old HSA.out) (src_tok (p := (c, .slice sa sn sc)) (blk_new _ _)) (by omega)) ?_; rintro b8 n8 c8 w8 ⟨hn8, h8, -⟩; have HC8 := Lib.hid h8; (obtain rfl : nc + 1 = n8 := hn8.symm); clear h8 hn8 y0 y1 y2 y3 y4 y5 y6 y7)
          | (at_builtin; refine wpList_append_ex rfl (.tmp 31) (.tmp 32) 22 rfl _ (CR.pushCs (P := P) HC8.out (HSP.out _ _ _ _ _ _ _ _ _ HC8.out) (HPV.out.over HC8.out.bel).src hsum) ?_; rintro v9 w9 ⟨a9, c9, rfl, h9, -⟩; have HC9 := Lib.hid h9; clear h9 e0))
        go_roundw
        case rel => exact ⟨k + 1, (cs ++ [c]) ++ T, a9, nc + 1 + m1, c9, rfl, by go_num, hlt, by rw [List.length_append, List.length_append, HNC.out, HM.out.2]; rfl, by have h := HC9.out; rw [HPT.out] at h; exact h, by rw [if_neg (by omega)]; exact HEN.out⟩
        case measure => simp [intOf]; omega
    · obtain rfl : k = n := by omega
      have hkI : ¬ (k : Int) < (k : Int) := by omega
      have HEQ : Hid (cs = weaveL A C) := Lib.hid (by
        have h := HE.out
        by_cases h0 : k = 0
        · rw [if_pos h0] at h
          have hA0 : A = [] := List.eq_nil_of_length_eq_zero (by have := HN.out; omega)
          rw [hA0] at h ⊢
          have hw : weaveL [] C = [] := rfl
          rw [hw, List.append_nil] at h
          rw [hw, ← h]
        · rw [if_neg h0, show k = A.length from HN.out, rest_end, List.append_nil] at h
          exact h.symm)
      have HCL : Hid (∀ X : World, Below wr.heap.size wr X → Calls Try.prog 29 #[.slice ac nc cc] X (ToksHeld X (weaveL A C))) := Lib.hid (fun X hX => by
        rw [← HEQ.out]
        exact tclone_held (HC.out.over hX).done.2.2.2 hcs (fun t ht => HS.out t (by rw [← HEQ.out]; exact ht)))
      go_wp2_with (go_at_call 29; (with_reducible refine (HCL.out _ (Below.refl _ _)).mono ?_); rintro e w3 ⟨a3, n3, c3, rfl, hn3, hz3, hh3, hb3⟩; have HN3 := Lib.hid hn3; have HZ3 := Lib.hid hz3; have HH3 := Lib.hid hh3; have HB3 := Lib.hid hb3; clear hn3 hz3 hh3 hb3)
      go_ret
      exact ⟨a3, n3, c3, rfl, HN3.out, HZ3.out, HH3.out.mono fun g hg _ => Nat.le_trans HBW.out.size hg, below_up HBW.out HB3.out⟩

end Go.Proofs.Ytipipookgcdfbaa

/-
  Pieces of rows of rows, and what a Fit answers.
-/
namespace Go.Proofs.Ytipipookgcdfbaa
open Go.RowKit

set_option maxRecDepth 100000 in
theorem rows_from (a : Option Addr) (n cap k : Nat) (h1 : k ≤ n) (h2 : n ≤ cap) : ∃ a', ((cap = k ∧ a' = a) ∨ (cap ≠ k ∧ a' = a.map fun x => x.add k)) ∧ ∀ w, (Instr.slice 31 (.slice a n cap) (some (.int .i64 (k : Int))) none none).run Try.prog w = .ok (.slice a' (n - k) (cap - k)) w := by
  have a1 : (k : Int) ≤ (n : Int) := by omega
  have a2 : (k : Int) ≤ (cap : Int) := by omega
  have a3 : (n : Int) ≤ (cap : Int) := by omega
  have a4 : (0 : Int) ≤ (k : Int) := by omega
  have a5 : Try.prog.cellsOf 22 = 1 := by kernel_rfl
  by_cases hc : cap = k
  · refine ⟨a, .inl ⟨hc, rfl⟩, fun w => ?_⟩
    subst hc
    simp [Instr.slice, run_underlying Try.underlying31, Instr.sliceBounds, run_sliceBound, *]
  · refine ⟨_, .inr ⟨hc, rfl⟩, fun w => ?_⟩
    have hc' : (cap == k) = false := by simpa using hc
    simp [Instr.slice, run_underlying Try.underlying31, Instr.sliceBounds, run_sliceBound, *]
set_option maxRecDepth 100000 in
theorem toks_from (a : Option Addr) (n cap k : Nat) (h1 : k ≤ n) (h2 : n ≤ cap) : ∃ a', ((cap = k ∧ a' = a) ∨ (cap ≠ k ∧ a' = a.map fun x => x.add (k * 8))) ∧ ∀ w, (Instr.slice 22 (.slice a n cap) (some (.int .i64 (k : Int))) none none).run Try.prog w = .ok (.slice a' (n - k) (cap - k)) w := by
  have a1 : (k : Int) ≤ (n : Int) := by omega
  have a2 : (k : Int) ≤ (cap : Int) := by omega
  have a3 : (n : Int) ≤ (cap : Int) := by omega
  have a4 : (0 : Int) ≤ (k : Int) := by omega
  have a5 : Try.prog.cellsOf 50 = 8 := by kernel_rfl
  by_cases hc : cap = k
  · refine ⟨a, .inl ⟨hc, rfl⟩, fun w => ?_⟩
    subst hc
    simp [Instr.slice, run_underlying Try.underlying22, Instr.sliceBounds, run_sliceBound, *]
  · refine ⟨_, .inr ⟨hc, rfl⟩, fun w => ?_⟩
    have hc' : (cap == k) = false := by simpa using hc
    simp [Instr.slice, run_underlying Try.underlying22, Instr.sliceBounds, run_sliceBound, *]

theorem RowsX.drop {A : List (List Xt)} {a a' : Option Addr} {n cap k : Nat} {w : World} (h : RowsX A (.slice a n cap) w) (hk : k ≤ n) (ha : (cap = k ∧ a' = a) ∨ (cap ≠ k ∧ a' = a.map fun x => x.add k)) : RowsX (A.drop k) (.slice a' (n - k) (cap - k)) w := by
  obtain ⟨hn, hc1, hc2, hz⟩ := h.len
  refine ⟨a', cap - k, by rw [List.length_drop, hn], by rw [List.length_drop]; omega, by omega, fun e => ?_, fun j T hT => ?_⟩
  · rcases ha with ⟨-, rfl⟩ | ⟨-, rfl⟩
    · have := hz e
      omega
    · cases a with
      | none => have := hz rfl; omega
      | some x => cases e
  · rw [List.getElem?_drop] at hT
    obtain ⟨g, o, b, m, c, rfl, hg, hcell, hz', hx⟩ := h.get hT
    have hjl := (List.getElem?_eq_some_iff.1 hT).1
    rcases ha with ⟨e, -⟩ | ⟨-, rfl⟩
    · omega
    · refine ⟨g, o + k, ?_, hg, b, m, c, ?_, hz', hx⟩
      · rw [Option.map_some, addr_off]
      · rw [Nat.add_assoc]
        exact hcell
theorem ToksX.drop {T : List Xt} {a a' : Option Addr} {n cap k : Nat} {w : World} (h : ToksX T (.slice a n cap) w) (ha : (cap = k ∧ a' = a) ∨ (cap ≠ k ∧ a' = a.map fun x => x.add (k * 8))) : ToksX (T.drop k) (.slice a' (n - k) (cap - k)) w := by
  obtain ⟨hn, hc1, hc2⟩ := h.len
  refine ⟨a', cap - k, by rw [List.length_drop, hn], by rw [List.length_drop]; omega, by omega, fun j t ht => ?_⟩
  rw [List.getElem?_drop] at ht
  obtain ⟨g, o, sa, sn, sc, rfl, hg, -, hx, hs⟩ := h.get ht
  have hjl := (List.getElem?_eq_some_iff.1 ht).1
  rcases ha with ⟨e, -⟩ | ⟨-, rfl⟩
  · omega
  · refine ⟨g, o + k * 8, ?_, hg, _, ?_, hs⟩
    · rw [Option.map_some, addr_off]
    · rw [show o + k * 8 + j * 8 = o + (k + j) * 8 from by omega]
      exact hx
theorem RowsX.take {A : List (List Xt)} {a : Option Addr} {n cap k : Nat} {w : World} (h : RowsX A (.slice a n cap) w) (hk : k ≤ n) : RowsX (A.take k) (.slice a k cap) w := by
  obtain ⟨hn, hc1, hc2, hz⟩ := h.len
  have hl : (A.take k).length = k := by rw [List.length_take]; omega
  refine ⟨a, cap, by rw [hl], by omega, by omega, hz, fun j T hT => ?_⟩
  have hjl := (List.getElem?_eq_some_iff.1 hT).1
  rw [List.getElem?_take_of_lt (by omega)] at hT
  obtain ⟨g, o, b, m, c, rfl, hg, hcell, hz', hx⟩ := h.get hT
  exact ⟨g, o, rfl, hg, b, m, c, hcell, hz', hx⟩

def FitPost (W : World) (R : Option (List (List Xt))) (e : Ending) (w' : World) : Prop :=
  match R with
  | none => e = .returned (.tuple #[.slice none 0 0, .bool false]) ∧ Below W.heap.size W w'
  | some B => ∃ a n c, e = .returned (.tuple #[.slice a n c, .bool true]) ∧ n = B.length ∧ RowsX B (.slice a n c) w' ∧ Below W.heap.size W w'
theorem fit_none {W w' : World} {a b : Bool} (h : a = false) (hb : Below W.heap.size W w') (_ : b = a) : FitPost W none (.returned (.tuple #[.slice none 0 0, .bool a])) w' := by
  rw [h]
  exact ⟨rfl, hb⟩

theorem weave_len (A : List (List Xt)) : ∀ C : List Xt, (weaveL A C).length ≤ (A.map List.length).sum + C.length := by
  induction A with
  | nil => intro C; simp [weaveL]
  | cons T A ih =>
    intro C
    cases C with
    | nil =>
      have := ih []
      simp only [weaveL, List.length_append, List.map_cons, List.sum_cons, List.length_nil] at this ⊢
      omega
    | cons c C =>
      have := ih C
      simp only [weaveL, List.length_append, List.length_cons, List.map_cons, List.sum_cons] at this ⊢
      omega
theorem weave_in {t : Xt} : ∀ (A : List (List Xt)) (C : List Xt), t ∈ weaveL A C → (∃ T ∈ A, t ∈ T) ∨ t ∈ C
  | [], _, h => by cases h
  | T :: A, [], h => by
    have h : t ∈ T ++ weaveL A [] := h
    rcases List.mem_append.1 h with h | h
    · exact .inl ⟨T, List.mem_cons_self, h⟩
    · rcases weave_in A [] h with ⟨U, hU, hu⟩ | hu
      · exact .inl ⟨U, List.mem_cons_of_mem _ hU, hu⟩
      · exact .inr hu
  | T :: A, c :: C, h => by
    have h : t ∈ T ++ c :: weaveL A C := h
    rcases List.mem_append.1 h with h | h
    · exact .inl ⟨T, List.mem_cons_self, h⟩
    · rcases List.mem_cons.1 h with rfl | h
      · exact .inr List.mem_cons_self
      · rcases weave_in A C h with ⟨U, hU, hu⟩ | hu
        · exact .inl ⟨U, List.mem_cons_of_mem _ hU, hu⟩
        · exact .inr (List.mem_cons_of_mem _ hu)

end Go.Proofs.Ytipipookgcdfbaa

/-
  The project's Fit, walked.
-/
namespace Go.Proofs.Ytipipookgcdfbaa
open Go.RowKit

/-- What is asked of arguments. -/
structure FitIn (A : List (List Xt)) (C : List Xt) : Prop where
  len : C.length = A.length - 1
  few : A.length ≤ 100000
  sum : (A.map List.length).sum ≤ 300000
  sit : ∀ T ∈ A, ∀ t ∈ T, t.ss.length ≤ 500000
  cit : ∀ t ∈ C, t.ss.length ≤ 500000
theorem sum_mem : ∀ {A : List (List Xt)} {T : List Xt}, T ∈ A → T.length ≤ (A.map List.length).sum
  | B :: A, T, h => by
    rw [List.map_cons, List.sum_cons]
    rcases List.mem_cons.1 h with rfl | h
    · omega
    · have := sum_mem h
      omega
theorem sum_drop : ∀ (A : List (List Xt)) (k : Nat), ((A.drop k).map List.length).sum ≤ (A.map List.length).sum
  | [], k => by simp
  | B :: A, 0 => Nat.le_refl _
  | B :: A, k + 1 => by
    have := sum_drop A k
    rw [List.drop_succ_cons, List.map_cons, List.sum_cons]
    omega
theorem FitIn.weave {A : List (List Xt)} {C : List Xt} (h : FitIn A C) (k : Nat) : (weaveL (A.drop k) (C.drop k)).length ≤ 500000 ∧ ∀ t ∈ weaveL (A.drop k) (C.drop k), t.ss.length ≤ 500000 := by
  refine ⟨?_, fun t ht => ?_⟩
  · have h1 := weave_len (A.drop k) (C.drop k)
    have h2 := sum_drop A k
    have h3 := h.sum
    have h4 := h.few
    have h5 := h.len
    rw [List.length_drop] at h1
    omega
  · rcases weave_in _ _ ht with ⟨T, hT, hu⟩ | hu
    · exact h.sit T (List.mem_of_mem_drop hT) t hu
    · exact h.cit t (List.mem_of_mem_drop hu)
theorem FitIn.rows {A : List (List Xt)} {C : List Xt} (h : FitIn A C) : ∀ T ∈ A, T.length ≤ 500000 := fun T hT => by
  have := sum_mem hT
  have := h.sum
  omega

theorem fit_zero {A : List (List Xt)} (va : Bool) (C : List Xt) (h : ∀ T, A = [T] → T ≠ []) : fitL 0 va A C = none := by
  unfold fitL
  rw [if_pos rfl]
  match A, h with
  | [], _ => rfl
  | [[]], h => exact absurd rfl (h [] rfl)
  | [_ :: _], _ => rfl
  | [] :: _ :: _, _ => rfl
  | (_ :: _) :: _ :: _, _ => rfl

def StrN (n : Nat) (pv : Value) : Prop := ∃ a c, pv = .slice a n c

set_option maxRecDepth 100000 in
set_option maxHeartbeats 6400000 in
theorem pfit_zero {m : Xm} {pa ba : Option Addr} {pc bn bc : Nat} {A : List (List Xt)} {C : List Xt} {lv cv : Value} {w : World} (hA : RowsX A lv w) (hC : ToksX C cv w) : Calls Try.prog 15 #[macV m (.slice pa 0 pc) (.slice ba bn bc), lv, cv] w (FitPost w (fitL 0 m.va A C)) := by
  obtain ⟨a, n, cap, rfl⟩ := hA.form
  obtain ⟨ca, cn, ccap, rfl⟩ := hC.form
  obtain ⟨hn, hc1, hc2, -⟩ := hA.len
  unfold maxLen at hc2
  unfold macV
  have HB : Hid (Below w.heap.size w (w.alloc (.cells #[.string m.n, .bool m.fn, .bool m.va, .slice pa 0 pc, .slice ba bn bc, .string m.g, .int .i64 m.f, .int .i64 m.t] 38))) := Lib.hid ((Below.refl _ _).alloc (Nat.le_refl _) _)
  by_cases h1 : n = 1
  · obtain ⟨T, rfl⟩ : ∃ T, A = [T] := by
      match A, hn with
      | [], hn => simp at hn; omega
      | [T], _ => exact ⟨T, rfl⟩
      | _ :: _ :: _, hn => simp at hn; omega
    subst h1
    obtain ⟨g, o, b1, m1, c1, rfl, hg, e0, -, hx1⟩ := hA.get (k := 0) rfl
    have hm1 := hx1.len.1
    rw [Nat.add_zero] at e0
    have e1 := bcell HB.out e0 hg
    cases T with
    | nil =>
      obtain rfl : m1 = 0 := hm1
      have HE : Hid (fitL 0 m.va [[]] C = some []) := Lib.hid rfl
      rw [HE.out]
      clear hA hC hn hx1 e0
      go_enter Try.func15, Try.ntmps15
      go_wp2_with fail
      go_quiet (fail)
      go_wp2
      go_ret2
      exact ⟨_, _, _, rfl, rfl, rowsX_nil _, below_up HB.out (Below.of_drews _ _)⟩
    | cons t r =>
      have HE : Hid (fitL 0 m.va [t :: r] C = none) := Lib.hid rfl
      rw [HE.out]
      have hne : ((m1 : Int) == 0) = false := by rw [hm1]; simp; omega
      clear hA hC hn hx1 e0 hm1
      go_enter Try.func15, Try.ntmps15
      go_wp2_with fail
      go_quiet (fail)
      go_wp2
      go_ret2
      exact ⟨rfl, below_up HB.out (Below.of_drews _ _)⟩
  · have HE : Hid (fitL 0 m.va A C = none) := Lib.hid (fit_zero _ _ fun T h => by rw [h] at hn; exact absurd hn h1)
    rw [HE.out]
    have hne : ((n : Int) == 1) = false := by simp; omega
    clear hA hC hn h1
    go_enter Try.func15, Try.ntmps15
    go_wp2_with fail
    go_quiet (fail)
    go_wp2
    go_ret2
    exact ⟨rfl, below_up HB.out (Below.of_drews _ _)⟩

end Go.Proofs.Ytipipookgcdfbaa
