/-
  Texts of the proof, put together: EdE.
-/
import Derived.Test.YtpnboieppkjfnaaGreatG36

/-
  What an edit leaves, over lists: where pieces begin, the part that is lexed, and the pieces of the new text.
-/
namespace Go.Proofs.YtpnboieppkjfnaaGreat
open Go.RowKit

def pre (Ts : List (List UInt8)) (i : Nat) : Nat := (Ts.take i).flatten.length

theorem pre_zero (Ts : List (List UInt8)) : pre Ts 0 = 0 := rfl
theorem pre_all (Ts : List (List UInt8)) : pre Ts Ts.length = Ts.flatten.length := by
  unfold pre
  rw [List.take_length]
theorem pre_succ {Ts : List (List UInt8)} {i : Nat} {T : List UInt8} (h : Ts[i]? = some T) : pre Ts (i + 1) = pre Ts i + T.length := by
  unfold pre
  rw [List.take_add_one, h]
  simp
theorem pre_mono {Ts : List (List UInt8)} {i j : Nat} (h : i ≤ j) : pre Ts i ≤ pre Ts j := by
  unfold pre
  have e : Ts.take i = (Ts.take j).take i := by rw [List.take_take, Nat.min_eq_left h]
  have e2 : (Ts.take j).flatten = ((Ts.take j).take i).flatten ++ ((Ts.take j).drop i).flatten := by
    rw [← List.flatten_append, List.take_append_drop]
  rw [e, e2, List.length_append]
  omega
theorem flat_split (Ts : List (List UInt8)) (i : Nat) : Ts.flatten = (Ts.take i).flatten ++ (Ts.drop i).flatten := by
  rw [← List.flatten_append, List.take_append_drop]
theorem pre_le (Ts : List (List UInt8)) (i : Nat) : pre Ts i ≤ Ts.flatten.length := by
  rw [flat_split Ts i, List.length_append]
  unfold pre
  omega
theorem flat_take (Ts : List (List UInt8)) (i : Nat) : (Ts.take i).flatten = Ts.flatten.take (pre Ts i) := by
  have h := flat_split Ts i
  rw [h]
  unfold pre
  rw [List.take_append_of_le_length (Nat.le_refl _), List.take_length]
theorem flat_drop (Ts : List (List UInt8)) (i : Nat) : (Ts.drop i).flatten = Ts.flatten.drop (pre Ts i) := by
  have h := flat_split Ts i
  rw [h]
  unfold pre
  rw [List.drop_append, List.drop_length, List.nil_append, Nat.sub_self, List.drop_zero]

theorem rows_get : ∀ (p : Nat) (Ts : List (List UInt8)) (i : Nat), (rows p Ts)[i]? = (Ts[i]?).map fun T => (shLn (p + pre Ts i) (lnOf T), (FL T).diags.map (shDg (p + pre Ts i)))
  | p, [], i => by simp [rows]
  | p, T :: r, 0 => by simp [rows, pre_zero]
  | p, T :: r, i + 1 => by
    rw [rows, List.getElem?_cons_succ, rows_get (p + T.length) r i, List.getElem?_cons_succ]
    have : pre (T :: r) (i + 1) = T.length + pre r i := by
      unfold pre
      rw [List.take_succ_cons, List.flatten_cons, List.length_append]
    rw [this, Nat.add_assoc]

theorem FL_good (T : List UInt8) : Good T (FL T) := by
  unfold FL
  refine lines_good T ?_
  by_cases h : T = []
  · left
    subst h
    rfl
  · right
    exact charsL_e10 h
theorem lnOf_at {T : List UInt8} (h : OneL T) : (lnOf T).f = 0 ∧ (lnOf T).t = T.length ∧ TokOk T T.length 0 (lnOf T).toks := by
  have hg := FL_good T
  unfold Good at hg
  rw [OneL.lines h] at hg
  have ht : (lnOf T).t = T.length := hg.2.1
  exact ⟨hg.1.1, ht, by have := hg.1.2.2.2.1; rw [ht] at this; exact this⟩

theorem rnT_le {l : List UInt8} {L : List Rn} (hL : charsL l = L) (i : Nat) : rnT L i ≤ l.length := by
  rcases Nat.lt_or_ge i L.length with h | h
  · exact (rn_in hL h).2
  · unfold rnT
    rw [List.getElem?_eq_none h]
    exact Nat.zero_le _

def DgIn (sz : Nat) (D : List Dg) : Prop := ∀ d ∈ D, d.f < sz ∧ d.t ≤ sz
theorem DgIn.tell {l : List UInt8} {L : List Rn} (hL : charsL l = L) {a : Acc} {c i e : Nat} (hi : i < L.length) (h10 : (bytesOf L).getD i 0 ≠ 10) (h : DgIn l.length a.diags) : DgIn l.length (tellA L a c i e).diags := by
  intro d hd
  simp only [tellA, List.mem_append, List.mem_cons, List.not_mem_nil, or_false] at hd
  rcases hd with hd | rfl
  · exact h d hd
  · have h1 := (get_chs hL hi h10).2
    have h2 := rnT_le hL i
    exact ⟨by simp only; omega, rnT_le hL _⟩
theorem run_diags {l : List UInt8} {L : List Rn} (hL : charsL l = L) : ∀ (m i : Nat) (a : Acc), L.length - i ≤ m → DgIn l.length a.diags → DgIn l.length (fromA L l.length i a).diags
  | 0, i, a, h, hd => by
    rw [fromA_end (by omega)]
    exact hd
  | m + 1, i, a, h, hd => by
    by_cases hi : i < L.length
    · have hlen := bytesOf_len L
      have hin := lenA_in (L := L) hi
      rw [fromA_step hi]
      refine run_diags hL m _ _ (by omega) ?_
      cases hc : item ((bytesOf L).drop i) with
      | nl => exact hd
      | gap n => exact hd
      | opn =>
        have h5 : begN ((bytesOf L).drop i) = 5 := by
          rcases begN_five ((bytesOf L).drop i) with h1 | h1 | h1 | h1 | h1
          · rw [item_tk h1] at hc; cases hc
          · rw [item_nl h1] at hc; cases hc
          · rw [item_sp h1] at hc; cases hc
          · rw [item_rem h1] at hc; cases hc
          · exact h1
        have h6 := (begN_fiveC h5).1
        rw [getD_drop, Nat.add_zero] at h6
        exact DgIn.tell hL hi (by rw [h6]; decide) hd
      | tk k n =>
        simp only [stepA, takeA]
        split
        · rename_i hb
          have h10 : (bytesOf L).getD i 0 ≠ 10 := by
            intro e
            rw [e] at hb
            revert hb
            unfold badN
            simp
          exact DgIn.tell hL hi h10 hd
        · exact hd
    · rw [fromA_end (by omega)]
      exact hd
theorem FL_diags (T : List UInt8) : DgIn T.length (FL T).diags := run_diags rfl _ 0 acc0 (Nat.le_refl _) (fun d hd => by cases hd)

theorem row_at {Ts : List (List UInt8)} (hp : Pcs Ts) {i : Nat} {x : Ln × List Dg} (h : (rows 0 Ts)[i]? = some x) : x.1.f = pre Ts i ∧ x.1.t = pre Ts (i + 1) ∧ (∀ d ∈ x.2, pre Ts i ≤ d.f ∧ d.f < pre Ts (i + 1)) := by
  rw [rows_get, Option.map_eq_some_iff] at h
  obtain ⟨T, hT, rfl⟩ := h
  obtain ⟨h1, h2, -⟩ := lnOf_at (hp.one T (List.mem_of_getElem? hT))
  have h3 := pre_succ hT
  refine ⟨?_, ?_, ?_⟩
  · simp only [shLn]
    omega
  · simp only [shLn]
    omega
  · intro d hd
    simp only [List.mem_map] at hd
    obtain ⟨d0, hd0, rfl⟩ := hd
    have := (FL_diags T d0 hd0).1
    simp only [shDg]
    omega

def ixN (Ts : List (List UInt8)) (p : Nat) : Nat := (rows 0 Ts).findIdx fun x => decide (p < x.1.t)
theorem ix_le (Ts : List (List UInt8)) (p : Nat) : ixN Ts p ≤ Ts.length := by
  have := List.findIdx_le_length (p := fun x : Ln × List Dg => decide (p < x.1.t)) (xs := rows 0 Ts)
  rw [rows_len] at this
  exact this
theorem ix_lt {Ts : List (List UInt8)} (hp : Pcs Ts) {p : Nat} (h : ixN Ts p < Ts.length) : p < pre Ts (ixN Ts p + 1) := by
  have hl : (rows 0 Ts).findIdx (fun x => decide (p < x.1.t)) < (rows 0 Ts).length := by rw [rows_len]; exact h
  have h1 := List.findIdx_getElem (w := hl)
  have h2 := row_at hp (List.getElem?_eq_getElem hl)
  simp only [decide_eq_true_eq] at h1
  rw [h2.2.1] at h1
  exact h1
theorem ix_pre {Ts : List (List UInt8)} (hp : Pcs Ts) {p k : Nat} (h : k ≤ ixN Ts p) : pre Ts k ≤ p := by
  cases k with
  | zero => exact Nat.zero_le _
  | succ j =>
    have hj : j < (rows 0 Ts).findIdx (fun x => decide (p < x.1.t)) := h
    have hl := List.findIdx_le_length (p := fun x : Ln × List Dg => decide (p < x.1.t)) (xs := rows 0 Ts)
    have h1 := List.not_of_lt_findIdx hj
    have h2 := row_at hp (List.getElem?_eq_getElem (show j < (rows 0 Ts).length by omega))
    simp only [decide_eq_false_iff_not] at h1
    rw [h2.2.1] at h1
    omega
theorem ix_mono {Ts : List (List UInt8)} (hp : Pcs Ts) {p q : Nat} (h : p ≤ q) : ixN Ts p ≤ ixN Ts q := by
  rcases Nat.lt_or_ge (ixN Ts q) (ixN Ts p) with h1 | h1
  · exfalso
    have h2 := ix_le Ts p
    have h3 := ix_lt hp (p := q) (by omega)
    have h4 := ix_pre hp (p := p) (k := ixN Ts q + 1) h1
    omega
  · exact h1
theorem mono_any {Ts : List (List UInt8)} (hp : Pcs Ts) (p : Nat) : Mono (rows 0 Ts) p ((rows 0 Ts).findIdx fun x => decide (p < x.1.t)) := by
  refine ⟨List.findIdx_le_length, fun k x hx => ?_⟩
  have h2 := (row_at hp hx).2.1
  have hk : k < Ts.length := by
    rcases Nat.lt_or_ge k Ts.length with h | h
    · exact h
    · rw [List.getElem?_eq_none (by rw [rows_len]; exact h)] at hx
      cases hx
  show k < ixN Ts p ↔ _
  constructor
  · intro h
    rw [h2]
    exact ix_pre hp h
  · intro h
    rcases Nat.lt_or_ge k (ixN Ts p) with h1 | h1
    · exact h1
    · exfalso
      have h3 := ix_lt hp (p := p) (by omega)
      have h4 := pre_mono (Ts := Ts) (show ixN Ts p + 1 ≤ k + 1 by omega)
      omega

theorem lf_eq (E : AE) : E.lf = min (ixN E.Ts E.fr) (E.Ts.length - 1) := by
  unfold AE.lf lofN ixN
  rw [rows_len]
theorem n0_eq (E : AE) : E.n0 = min (min (ixN E.Ts E.te) (E.Ts.length - 1) + 1) E.Ts.length := by
  unfold AE.n0 lofN ixN
  rw [rows_len]
theorem lf_le (E : AE) : E.lf ≤ E.Ts.length - 1 := by rw [lf_eq]; omega
theorem lf_pre {E : AE} (he : Ed E.Ts E.fr E.te E.l) : pre E.Ts E.lf ≤ E.fr := ix_pre he.pcs (by rw [lf_eq]; omega)
theorem n0_le (E : AE) : E.n0 ≤ E.Ts.length := by rw [n0_eq]; omega
theorem n0_pre {E : AE} (he : Ed E.Ts E.fr E.te E.l) : E.te ≤ pre E.Ts E.n0 ∧ (E.n0 < E.Ts.length → E.te < pre E.Ts E.n0) := by
  have h1 := ix_le E.Ts E.te
  have h2 := he.to_le
  by_cases hx : ixN E.Ts E.te < E.Ts.length
  · have h3 := ix_lt he.pcs hx
    have h4 : E.n0 = ixN E.Ts E.te + 1 := by rw [n0_eq]; omega
    rw [h4]
    exact ⟨by omega, fun _ => h3⟩
  · have h4 : E.n0 = E.Ts.length := by rw [n0_eq]; omega
    rw [h4, pre_all]
    exact ⟨h2, fun h => by omega⟩
theorem lf_n0 {E : AE} (he : Ed E.Ts E.fr E.te E.l) : E.lf ≤ E.n0 ∧ (0 < E.Ts.length → E.lf < E.n0) := by
  have := ix_mono he.pcs he.le
  rw [lf_eq, n0_eq]
  omega

theorem begN2_eq {E : AE} (he : Ed E.Ts E.fr E.te E.l) {f : Nat} (hf : f ≤ E.lf) : begN2 E.Ts f = pre E.Ts f := by
  have h1 := lf_le E
  unfold begN2
  cases hx : (rows 0 E.Ts)[f]? with
  | some x => exact (row_at he.pcs hx).1
  | none =>
    rw [List.getElem?_eq_none_iff, rows_len] at hx
    have : f = 0 := by omega
    rw [this]
    rfl
theorem plaN_eq {E : AE} (ho : E.Ok) (he : Ed E.Ts E.fr E.te E.l) {m : Nat} (hm : m ≤ E.Ts.length) : plaN E m = ((pre E.Ts m : Int) + E.mo).toNat := by
  unfold plaN
  cases hx : (rows 0 E.Ts)[m]? with
  | some x =>
    simp only
    rw [(row_at he.pcs hx).1]
  | none =>
    rw [List.getElem?_eq_none_iff, rows_len] at hx
    have : m = E.Ts.length := by omega
    rw [this, pre_all]
    simp only
    have := ho.mo
    omega

theorem seg_three {A I B : List UInt8} {i k : Nat} (hi : i ≤ A.length) : seg (A ++ (I ++ B)) i (A.length + I.length + k) = A.drop i ++ (I ++ B.take k) := by
  unfold seg
  rw [List.drop_append_of_le_length hi, List.take_append, List.take_append, List.length_drop, List.take_of_length_le (l := A.drop i) (by rw [List.length_drop]; omega), List.take_of_length_le (l := I) (by omega)]
  congr 3
  omega
theorem seg_last {A I B : List UInt8} {j k : Nat} : seg (A ++ (I ++ B)) (A.length + I.length + j) (A.length + I.length + k) = (B.drop j).take (k - j) := by
  unfold seg
  rw [← List.append_assoc, List.drop_append, List.drop_of_length_le (by rw [List.length_append]; omega), List.nil_append, List.length_append]
  congr 1
  · omega
  · congr 1
    omega

/-- The part, put together. -/
theorem part_is {E : AE} (ho : E.Ok) (he : Ed E.Ts E.fr E.te E.l) {ins : List UInt8} (hi : E.l = E.Ts.flatten.take E.fr ++ (ins ++ E.Ts.flatten.drop E.te)) {f m : Nat} (hf : f ≤ E.lf) (hm : E.n0 ≤ m) (hm2 : m ≤ E.Ts.length) :
    plaN E m = E.fr + ins.length + (pre E.Ts m - E.te) ∧ partN E f m = (E.Ts.flatten.take E.fr).drop (pre E.Ts f) ++ (ins ++ (E.Ts.flatten.drop E.te).take (pre E.Ts m - E.te)) := by
  have h1 := (n0_pre he).1
  have h2 := pre_mono (Ts := E.Ts) hm
  have h3 := he.to_le
  have h4 := he.le
  have hmo := ho.mo
  have hA : (E.Ts.flatten.take E.fr).length = E.fr := by rw [List.length_take]; omega
  have hL : E.l.length = E.fr + (ins.length + (E.Ts.flatten.length - E.te)) := by rw [hi, List.length_append, List.length_append, hA, List.length_drop]
  have hp := plaN_eq ho he hm2
  have hpl : plaN E m = E.fr + ins.length + (pre E.Ts m - E.te) := by omega
  refine ⟨hpl, ?_⟩
  have hpf := Nat.le_trans (pre_mono (Ts := E.Ts) hf) (lf_pre he)
  unfold partN
  rw [begN2_eq he hf, hpl]
  have := seg_three (A := E.Ts.flatten.take E.fr) (I := ins) (B := E.Ts.flatten.drop E.te) (i := pre E.Ts f) (k := pre E.Ts m - E.te) (by omega)
  rw [hA, ← hi] at this
  exact this

theorem part_whole {E : AE} (ho : E.Ok) (he : Ed E.Ts E.fr E.te E.l) {f m : Nat} (hf : f ≤ E.lf) (hm : E.n0 ≤ m) (hm2 : m ≤ E.Ts.length) : E.l = (E.Ts.take f).flatten ++ (partN E f m ++ (E.Ts.drop m).flatten) := by
  obtain ⟨ins, hi⟩ := he.is
  have hpf := Nat.le_trans (pre_mono (Ts := E.Ts) hf) (lf_pre he)
  have hpm := Nat.le_trans (n0_pre he).1 (pre_mono (Ts := E.Ts) hm)
  rw [(part_is ho he hi hf hm hm2).2, flat_take, flat_drop]
  have e1 : E.Ts.flatten.take (pre E.Ts f) = (E.Ts.flatten.take E.fr).take (pre E.Ts f) := by rw [List.take_take, Nat.min_eq_left hpf]
  have e2 : E.Ts.flatten.drop (pre E.Ts m) = (E.Ts.flatten.drop E.te).drop (pre E.Ts m - E.te) := by
    rw [List.drop_drop]
    congr 1
    omega
  rw [e1, e2, List.append_assoc, List.append_assoc, List.take_append_drop, ← List.append_assoc, List.take_append_drop]
  exact hi

theorem drop_gets {Ts : List (List UInt8)} {m : Nat} {T : List UInt8} (h : Ts[m]? = some T) : Ts.drop m = T :: Ts.drop (m + 1) := by
  obtain ⟨hlt, rfl⟩ := List.getElem?_eq_some_iff.1 h
  exact List.drop_eq_getElem_cons hlt

theorem part_grow {E : AE} (ho : E.Ok) (he : Ed E.Ts E.fr E.te E.l) {f m : Nat} {T : List UInt8} (hf : f ≤ E.lf) (hm : E.n0 ≤ m) (hT : E.Ts[m]? = some T) : partN E f (m + 1) = partN E f m ++ T := by
  have hlt : m < E.Ts.length := (List.getElem?_eq_some_iff.1 hT).1
  have h1 := part_whole ho he hf hm (Nat.le_of_lt hlt)
  have h2 := part_whole ho he hf (Nat.le_succ_of_le hm) hlt
  rw [h2] at h1
  rw [drop_gets hT, List.flatten_cons, List.append_cancel_left_eq, ← List.append_assoc, List.append_cancel_right_eq] at h1
  exact h1

theorem part_front {E : AE} (ho : E.Ok) (he : Ed E.Ts E.fr E.te E.l) {f m : Nat} {T : List UInt8} (hf : f + 1 ≤ E.lf) (hm : E.n0 ≤ m) (hm2 : m ≤ E.Ts.length) (hT : E.Ts[f]? = some T) : partN E f m = T ++ partN E (f + 1) m := by
  have h1 := part_whole ho he (Nat.le_of_succ_le hf) hm hm2
  have h2 := part_whole ho he hf hm hm2
  rw [h2, List.take_add_one, hT] at h1
  simp only [Option.toList_some, List.flatten_append, List.flatten_cons, List.flatten_nil, List.append_nil, List.append_assoc] at h1
  rw [List.append_cancel_left_eq, ← List.append_assoc, List.append_cancel_right_eq] at h1
  exact h1.symm

theorem plaN_mono {E : AE} (ho : E.Ok) (he : Ed E.Ts E.fr E.te E.l) {i j : Nat} (hij : i ≤ j) (hj : j ≤ E.Ts.length) : plaN E i ≤ plaN E j := by
  have := pre_mono (Ts := E.Ts) hij
  rw [plaN_eq ho he hj, plaN_eq ho he (Nat.le_trans hij hj)]
  omega
theorem tail_is {E : AE} (ho : E.Ok) (he : Ed E.Ts E.fr E.te E.l) {m : Nat} {T : List UInt8} (hm : E.n0 ≤ m) (hT : E.Ts[m]? = some T) : tailN E m = T := by
  obtain ⟨ins, hi⟩ := he.is
  have hlt : m < E.Ts.length := (List.getElem?_eq_some_iff.1 hT).1
  have h0 := (n0_pre he).1
  have h2 := pre_mono (Ts := E.Ts) hm
  have h3 := he.to_le
  have h4 := he.le
  have h5 := pre_succ hT
  have hA : (E.Ts.flatten.take E.fr).length = E.fr := by rw [List.length_take]; omega
  unfold tailN
  rw [(part_is ho he hi (Nat.zero_le _) hm (Nat.le_of_lt hlt)).1, (part_is ho he hi (Nat.zero_le _) (Nat.le_succ_of_le hm) hlt).1]
  have := seg_last (A := E.Ts.flatten.take E.fr) (I := ins) (B := E.Ts.flatten.drop E.te) (j := pre E.Ts m - E.te) (k := pre E.Ts (m + 1) - E.te)
  rw [hA, ← hi] at this
  rw [this, List.drop_drop, show E.te + (pre E.Ts m - E.te) = pre E.Ts m from by omega, ← flat_drop, drop_gets hT, List.flatten_cons, List.take_append_of_le_length (by omega), List.take_of_length_le (by omega)]

theorem flat_e10 {X : List (List UInt8)} (h : X ≠ []) (hs : ∀ T ∈ X, Shut T) : E10 X.flatten := by
  have e : X.dropLast ++ [X.getLast h] = X := List.dropLast_concat_getLast h
  have hl := (hs _ (List.getLast_mem h)).e
  rw [← e, List.flatten_append]
  refine E10.app ?_
  simpa using hl
theorem shut_take {Ts : List (List UInt8)} (hp : Pcs Ts) {m : Nat} (hm : m < Ts.length) : ∀ T ∈ Ts.take m, Shut T := by
  have h : Pcs (Ts.take m ++ Ts.drop m) := by rw [List.take_append_drop]; exact hp
  refine h.parts.2.2.1 ?_
  intro e
  rw [List.drop_eq_nil_iff] at e
  omega
theorem shut_at {Ts : List (List UInt8)} (hp : Pcs Ts) {m : Nat} {T : List UInt8} (hT : Ts[m]? = some T) (hm : m + 1 < Ts.length) : Shut T := by
  refine shut_take hp hm T ?_
  rw [List.take_add_one, hT]
  simp
/-- Ahead of an old line the part ends with a byte 10. -/
theorem part_e10 {E : AE} (ho : E.Ok) (he : Ed E.Ts E.fr E.te E.l) {f m : Nat} (hf : f ≤ E.lf) (hm : E.n0 ≤ m) (hm2 : m < E.Ts.length) : E10 (partN E f m) := by
  obtain ⟨ins, hi⟩ := he.is
  rw [(part_is ho he hi hf hm (Nat.le_of_lt hm2)).2]
  have h1 := (n0_pre he).2 (by omega)
  have h2 := pre_mono (Ts := E.Ts) hm
  refine E10.app (E10.app ?_)
  have e : (E.Ts.flatten.drop E.te).take (pre E.Ts m - E.te) = ((E.Ts.take m).flatten).drop E.te := by
    rw [flat_take, List.drop_take]
  rw [e]
  refine E10.drop (flat_e10 ?_ (shut_take he.pcs hm2)) ?_
  · intro e0
    have h5 : pre E.Ts m = 0 := by
      unfold pre
      rw [e0]
      rfl
    omega
  · show E.te < pre E.Ts m
    omega

theorem spB_behind {x y : List UInt8} (hx : E10 x) (hy : y ≠ []) (hs : spB y = false) : spB (x ++ y) = false := by
  cases hq : spB (x ++ y) with
  | false => rfl
  | true =>
    exfalso
    have hyl : 0 < y.length := List.length_pos_iff.2 hy
    have hxl := hx.1
    have hlen : (x ++ y).length = x.length + y.length := List.length_append
    have hgr : ∀ j, j < y.length → (x ++ y).getD (x.length + y.length - 1 - j) 0 = y.getD (y.length - 1 - j) 0 := by
      intro j hj
      rw [show x.length + y.length - 1 - j = x.length + (y.length - 1 - j) from by omega, get_right]
    have hgx : (x ++ y).getD (x.length - 1) 0 = 10 := by rw [get_left (by omega)]; exact hx.2
    unfold spB at hq
    rw [Bool.or_eq_true] at hq
    rcases hq with hq | hq
    · obtain ⟨h4, h5⟩ := suf_of hq
      have a0 := h5 0
      have a1 := h5 1
      simp only [List.length_cons, List.length_nil] at h4 a0 a1
      rw [hlen] at a0 a1
      by_cases h2 : 2 ≤ y.length
      · have g0 := hgr 0 (by omega)
        have g1 := hgr 1 (by omega)
        rw [show x.length + y.length - 1 - 0 = x.length + y.length - (0 + 1 + 1) + 1 from by omega, a1] at g0
        rw [show x.length + y.length - 1 - 1 = x.length + y.length - (0 + 1 + 1) + 0 from by omega, a0] at g1
        have := suf2 h2 (by rw [show y.length - 2 = y.length - 1 - 1 from by omega]; exact g1.symm) (by rw [show y.length - 1 = y.length - 1 - 0 from by omega]; exact g0.symm)
        rw [this] at hs
        cases hs
      · rw [show x.length + y.length - (0 + 1 + 1) + 0 = x.length - 1 from by omega, hgx] at a0
        exact absurd a0 (by decide)
    · obtain ⟨h4, h5⟩ := suf_of hq
      have a0 := h5 0
      have a1 := h5 1
      have a2 := h5 2
      have a3 := h5 3
      simp only [List.length_cons, List.length_nil] at h4 a0 a1 a2 a3
      rw [hlen] at a0 a1 a2 a3
      by_cases h2 : 4 ≤ y.length
      · have g0 := hgr 0 (by omega)
        have g1 := hgr 1 (by omega)
        have g2 := hgr 2 (by omega)
        have g3 := hgr 3 (by omega)
        rw [show x.length + y.length - 1 - 0 = x.length + y.length - (0 + 1 + 1 + 1 + 1) + 3 from by omega, a3] at g0
        rw [show x.length + y.length - 1 - 1 = x.length + y.length - (0 + 1 + 1 + 1 + 1) + 2 from by omega, a2] at g1
        rw [show x.length + y.length - 1 - 2 = x.length + y.length - (0 + 1 + 1 + 1 + 1) + 1 from by omega, a1] at g2
        rw [show x.length + y.length - 1 - 3 = x.length + y.length - (0 + 1 + 1 + 1 + 1) + 0 from by omega, a0] at g3
        have := suf4 h2 (by rw [show y.length - 4 = y.length - 1 - 3 from by omega]; exact g3.symm) (by rw [show y.length - 3 = y.length - 1 - 2 from by omega]; exact g2.symm) (by rw [show y.length - 2 = y.length - 1 - 1 from by omega]; exact g1.symm) (by rw [show y.length - 1 = y.length - 1 - 0 from by omega]; exact g0.symm)
        rw [this] at hs
        cases hs
      · have h3 : y.length = 1 ∨ y.length = 2 ∨ y.length = 3 := by omega
        rcases h3 with h3 | h3 | h3
        · rw [show x.length + y.length - (0 + 1 + 1 + 1 + 1) + 2 = x.length - 1 from by omega, hgx] at a2
          exact absurd a2 (by decide)
        · rw [show x.length + y.length - (0 + 1 + 1 + 1 + 1) + 1 = x.length - 1 from by omega, hgx] at a1
          exact absurd a1 (by decide)
        · rw [show x.length + y.length - (0 + 1 + 1 + 1 + 1) + 0 = x.length - 1 from by omega, hgx] at a0
          exact absurd a0 (by decide)

/-- From next on no part is spliced at its end, ahead of the last line. -/
theorem part_spB {E : AE} (ho : E.Ok) (he : Ed E.Ts E.fr E.te E.l) {f n : Nat} (hf : f ≤ E.lf) (hn : E.n0 ≤ n) (hs : spB (partN E f n) = false) : ∀ m, n ≤ m → m < E.Ts.length → spB (partN E f m) = false
  | 0, h, _ => by rw [show 0 = n from by omega]; exact hs
  | m + 1, h, hlt => by
    by_cases h1 : n = m + 1
    · rw [← h1]
      exact hs
    · obtain ⟨T, hT⟩ : ∃ T, E.Ts[m]? = some T := ⟨_, List.getElem?_eq_getElem (by omega)⟩
      rw [part_grow ho he hf (by omega) hT]
      have hsh := shut_at he.pcs hT hlt
      exact spB_behind (part_e10 ho he hf (by omega) (by omega)) (he.pcs.one T (List.mem_of_getElem? hT)).ne hsh.s

theorem few_pieces : ∀ {Ts : List (List UInt8)}, Pcs Ts → Ts.length ≤ Ts.flatten.length
  | [], _ => Nat.le_refl _
  | T :: r, h => by
    have h1 := few_pieces h.tail
    have h2 := List.length_pos_iff.2 h.head.ne
    rw [List.length_cons, List.flatten_cons, List.length_append]
    omega

theorem geo_any {E : AE} (ho : E.Ok) (he : Ed E.Ts E.fr E.te E.l) : E.Geo := by
  have h1 := lf_le E
  have h2 := few_pieces he.pcs
  have h3 := he.old
  have hpl : ∀ m, E.n0 ≤ m → m ≤ E.Ts.length → E.fr ≤ plaN E m ∧ plaN E m ≤ E.l.length ∧ 0 ≤ (pre E.Ts m : Int) + E.mo := by
    intro m hm hm2
    obtain ⟨ins, hi⟩ := he.is
    have h4 := (part_is ho he hi (Nat.zero_le _) hm hm2).1
    have h5 := plaN_mono ho he hm2 (Nat.le_refl _)
    have h6 : plaN E E.Ts.length = E.l.length := by
      rw [plaN_eq ho he (Nat.le_refl _), pre_all]
      have := ho.mo
      omega
    have h7 := (n0_pre he).1
    have h8 := pre_mono (Ts := E.Ts) hm
    have h9 := he.to_le
    have h10 := he.le
    have hA : (E.Ts.flatten.take E.fr).length = E.fr := by rw [List.length_take]; omega
    have hL : E.l.length = E.fr + (ins.length + (E.Ts.flatten.length - E.te)) := by rw [hi, List.length_append, List.length_append, hA, List.length_drop]
    have := ho.mo
    omega
  refine ⟨by omega, fun m hm hm2 => ⟨fun x hx => ?_, (hpl m hm hm2).2.1⟩, fun m f hm hm2 hf => ?_, mono_any he.pcs _, mono_any he.pcs _, by omega⟩
  · rw [(row_at he.pcs hx).1]
    exact (hpl m hm hm2).2.2
  · rw [begN2_eq he hf]
    have := pre_mono (Ts := E.Ts) hf
    have := lf_pre he
    have := (hpl m hm hm2).1
    omega

theorem t_cases {E : AE} {f n : Nat} (ht : TSpec E f n) : f ≤ E.lf ∧ (n < E.Ts.length → f = E.lf ∧ spB (partN E f n) = false) := by
  obtain ⟨h1, h2, h3, h4, h5⟩ := ht
  rcases h5 with ⟨rfl, h6⟩ | ⟨h6, h7⟩
  · refine ⟨Nat.le_refl _, fun h => ⟨rfl, ?_⟩⟩
    rcases h3 with h3 | h3
    · omega
    · exact h3
  · refine ⟨by omega, fun h => ?_⟩
    rcases h3 with h3 | h3
    · omega
    · rw [h3] at h7
      cases h7

theorem open_steps {E : AE} (ho : E.Ok) (he : Ed E.Ts E.fr E.te E.l) {f n : Nat} (ht : TSpec E f n) : ∀ m, n ≤ m → m + 1 < E.Ts.length → opnA (FL (partN E f m)) = true → opnA (FL (partN E f (m + 1))) = opnA (FL ([47, 42] ++ tailN E m)) := by
  intro m hm hlt hop
  obtain ⟨hf, hc⟩ := t_cases ht
  obtain ⟨rfl, hsp⟩ := hc (by omega)
  have hn0 : E.n0 ≤ m := Nat.le_trans ht.1 hm
  obtain ⟨T, hT⟩ : ∃ T, E.Ts[m]? = some T := ⟨_, List.getElem?_eq_getElem (by omega)⟩
  have hsh := shut_at he.pcs hT hlt
  rw [part_grow ho he hf hn0 hT, tail_is ho he hn0 hT]
  exact open_step (part_e10 ho he hf hn0 (by omega)) (part_spB ho he hf ht.1 hsp m hm (by omega)) hop hsh.e hsh.s

/-- The pieces of the new text. -/
theorem new_pieces {E : AE} (ho : E.Ok) (he : Ed E.Ts E.fr E.te E.l) {f n n' : Nat} (ht : TSpec E f n) (hl : LSpec E f n n') :
    ∃ Ps, Pcs Ps ∧ Ps.flatten = partN E f n' ∧ Pcs (E.Ts.take f ++ (Ps ++ E.Ts.drop n')) ∧ (E.Ts.take f ++ (Ps ++ E.Ts.drop n')).flatten = E.l := by
  obtain ⟨Ps, hP, hPf⟩ := pieces_of _ (partN E f n') (Nat.le_refl _)
  obtain ⟨hf, hc⟩ := t_cases ht
  obtain ⟨hn, hn', ho1, -⟩ := hl
  have hn0 : E.n0 ≤ n' := Nat.le_trans ht.1 hn
  have hw := part_whole ho he hf hn0 hn'
  refine ⟨Ps, hP, hPf, ?_, by rw [List.flatten_append, List.flatten_append, hPf]; exact hw.symm⟩
  have h1 := lf_le E
  have h2 := lf_n0 he
  have hfn : f ≤ n' := by omega
  refine edit_pieces (Y := (E.Ts.drop f).take (n' - f)) ?_ hP ?_ ?_ ?_ ?_
  · have e : E.Ts.drop n' = (E.Ts.drop f).drop (n' - f) := by
      rw [List.drop_drop]
      congr 1
      omega
    rw [e, List.take_append_drop, List.take_append_drop]
    exact he.pcs
  · by_cases hz : n' = E.Ts.length
    · left
      rw [hz, List.drop_length]
    · right
      have hlt : n' < E.Ts.length := by omega
      obtain ⟨rfl, hsp⟩ := hc (by omega)
      rw [hPf]
      refine ⟨part_e10 ho he hf hn0 hlt, part_spB ho he hf ht.1 hsp n' hn hlt, ?_⟩
      rcases ho1 with h | h
      · exact absurd h hz
      · exact h
  · rw [hPf]
    by_cases hf0 : f = 0
    · left
      rw [hf0, List.take_zero]
    · right
      by_cases hp0 : partN E f n' = []
      · left
        rw [← hPf] at hp0
        cases Ps with
        | nil => rfl
        | cons U r =>
          exfalso
          have := hP.head.ne
          rw [List.flatten_cons, List.append_eq_nil_iff] at hp0
          exact this hp0.1
      · right
        obtain ⟨t1, t2, t3, t4, t5⟩ := ht
        rcases t5 with ⟨rfl, h6⟩ | ⟨h6, h7⟩
        · rcases h6 with h6 | h6
          · exact absurd h6 hf0
          · by_cases hnn : n' = n
            · subst hnn
              intro hb
              have := bare_spB _ 0 (Nat.le_refl _) (by rw [List.length_pos_iff]; exact hp0) hb
              rw [this] at h6
              cases h6
            · have hlt : n < E.Ts.length := by omega
              have hE := part_e10 ho he hf t1 hlt
              have hgr : ∀ m, n ≤ m → m ≤ E.Ts.length → ∃ r, partN E E.lf m = partN E E.lf n ++ r := by
                intro m
                induction m with
                | zero =>
                  intro h _
                  rw [show n = 0 from by omega]
                  exact ⟨[], by simp⟩
                | succ m ih =>
                  intro h h'
                  by_cases e : n = m + 1
                  · rw [e]
                    exact ⟨[], by simp⟩
                  · obtain ⟨r, hr⟩ := ih (by omega) (by omega)
                    obtain ⟨T, hT⟩ : ∃ T, E.Ts[m]? = some T := ⟨_, List.getElem?_eq_getElem (by omega)⟩
                    rw [part_grow ho he hf (by omega) hT, hr, List.append_assoc]
                    exact ⟨_, rfl⟩
              obtain ⟨r, hr⟩ := hgr n' hn hn'
              rw [hr]
              exact chs_some hE h6
        · obtain ⟨T, hT⟩ : ∃ T, E.Ts[f]? = some T := ⟨_, List.getElem?_eq_getElem (by omega)⟩
          have hsh := shut_at he.pcs hT (by omega)
          rw [part_front ho he (by omega) hn0 hn' hT]
          exact chs_some hsh.e hsh.s
  · intro hZ
    have hlt : n' < E.Ts.length := by
      rcases Nat.lt_or_ge n' E.Ts.length with h | h
      · exact h
      · exact absurd (List.drop_of_length_le h) hZ
    have := h2.2 (by omega)
    intro e
    have h3 := congrArg List.length e
    rw [List.length_take, List.length_drop] at h3
    simp at h3
    omega
  · by_cases hf0 : f = 0
    · left
      rw [hf0, List.take_zero]
    · right
      intro e
      have h3 := congrArg List.length e
      rw [List.length_append, List.length_take, List.length_drop, List.length_drop] at h3
      simp at h3
      omega

end Go.Proofs.YtpnboieppkjfnaaGreat
