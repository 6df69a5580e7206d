/-
  Texts of the proof, put together: LxBytesL.
-/
import Derived.Test.YtipipookgcdfbaaG12
import Derived.Test.YtipipookgcdfbaaG14

/-
  Where lines and tokens stand, over lists.
-/
namespace Go.Proofs.Ytipipookgcdfbaa

def TokOk (l : List UInt8) (to : Nat) : Nat → List Tk → Prop
  | _, [] => True
  | at_, t :: r => at_ ≤ t.f ∧ t.f < t.t ∧ t.t ≤ to ∧ backL l t.f t.t = t.x ∧ TokOk l to t.t r
def LnOk (l : List UInt8) : Nat → List Ln → Prop
  | _, [] => True
  | at_, ln :: r => ln.f = at_ ∧ at_ ≤ ln.t ∧ (ln.o = true → r = []) ∧ TokOk l ln.t at_ ln.toks ∧ LnOk l ln.t r
def lastT : Nat → List Ln → Nat
  | a, [] => a
  | _, ln :: r => lastT ln.t r
def lastTk : Nat → List Tk → Nat
  | a, [] => a
  | _, t :: r => lastTk t.t r

theorem TokOk.up {l : List UInt8} {to to' : Nat} (h : to ≤ to') : ∀ {at_ : Nat} {T : List Tk}, TokOk l to at_ T → TokOk l to' at_ T
  | _, [], _ => trivial
  | _, _ :: _, hT => ⟨hT.1, hT.2.1, Nat.le_trans hT.2.2.1 h, hT.2.2.2.1, TokOk.up h hT.2.2.2.2⟩
theorem TokOk.snoc {l : List UInt8} {to : Nat} {t : Tk} : ∀ {at_ : Nat} {T : List Tk}, TokOk l to at_ T → lastTk at_ T ≤ t.f → t.f < t.t → t.t ≤ to → backL l t.f t.t = t.x → TokOk l to at_ (T ++ [t])
  | _, [], _, h1, h2, h3, h4 => ⟨h1, h2, h3, h4, trivial⟩
  | _, _ :: _, hT, h1, h2, h3, h4 => ⟨hT.1, hT.2.1, hT.2.2.1, hT.2.2.2.1, TokOk.snoc hT.2.2.2.2 h1 h2 h3 h4⟩
theorem lastTk_snoc {t : Tk} : ∀ {a : Nat} {T : List Tk}, lastTk a (T ++ [t]) = t.t
  | _, [] => rfl
  | _, _ :: r => lastTk_snoc (T := r)
theorem lastT_snoc {t : Ln} : ∀ {a : Nat} {T : List Ln}, lastT a (T ++ [t]) = t.t
  | _, [] => rfl
  | _, _ :: r => lastT_snoc (T := r)
theorem LnOk.snoc {l : List UInt8} {ln : Ln} : ∀ {at_ : Nat} {T : List Ln}, LnOk l at_ T → (∀ x ∈ T, x.o = false) → ln.f = lastT at_ T → ln.f ≤ ln.t → TokOk l ln.t ln.f ln.toks → LnOk l at_ (T ++ [ln])
  | a, [], _, _, h1, h2, h3 => by
    have h1 : ln.f = a := h1
    exact ⟨h1, by rw [← h1]; exact h2, fun _ => rfl, by rw [← h1]; exact h3, trivial⟩
  | _, x :: _, hT, ho, h1, h2, h3 => ⟨hT.1, hT.2.1, fun h => (by rw [ho x (List.mem_cons_self)] at h; cases h), hT.2.2.2.1, LnOk.snoc hT.2.2.2.2 (fun y hy => ho y (List.mem_cons_of_mem _ hy)) h1 h2 h3⟩

theorem ord_pair {n : Nat} : ∀ {a : Nat} {L : List Rn}, Ord n a L → L.Pairwise (fun x y => x.t ≤ y.f) ∧ ∀ x ∈ L, a ≤ x.f
  | _, [], _ => ⟨List.Pairwise.nil, fun x h => by cases h⟩
  | a, r :: q, h => by
    obtain ⟨h1, h2, h3, h4, h5⟩ := h
    obtain ⟨p1, p2⟩ := ord_pair h5
    refine ⟨List.Pairwise.cons p2 p1, fun x hx => ?_⟩
    rcases List.mem_cons.1 hx with rfl | hx
    · exact h1
    · have := p2 x hx
      omega

/-- Two characters of a text, by their places. -/
theorem rn_order {l : List UInt8} {L : List Rn} (hL : charsL l = L) {i j : Nat} (hij : i < j) (hj : j < L.length) : rnT L i ≤ rnF L j := by
  have hp := (ord_pair (charsL_ord l)).1
  rw [hL, List.pairwise_iff_getElem] at hp
  have := hp i j (by omega) hj hij
  rw [rnT_of (List.getElem?_eq_getElem (by omega)), rnF_of (List.getElem?_eq_getElem hj)]
  exact this
theorem ord_each {n : Nat} : ∀ {a : Nat} {L : List Rn}, Ord n a L → ∀ x ∈ L, x.f ≤ x.t ∧ x.t ≤ n
  | _, _ :: _, h, x, hx => by
    rcases List.mem_cons.1 hx with rfl | hx
    · exact ⟨h.2.1, h.2.2.1⟩
    · exact ord_each h.2.2.2.2 x hx
theorem rn_in {l : List UInt8} {L : List Rn} (hL : charsL l = L) {i : Nat} (hi : i < L.length) : rnF L i ≤ rnT L i ∧ rnT L i ≤ l.length := by
  have := ord_each (charsL_ord l) L[i] (by rw [hL]; exact List.getElem_mem hi)
  rw [rnT_of (List.getElem?_eq_getElem hi), rnF_of (List.getElem?_eq_getElem hi)]
  exact this

/-- Characters that are no byte 10 stand in the text themselves. -/
theorem chs_part {l : List UInt8} {L : List Rn} (hL : charsL l = L) : ∃ e, L = chs l 0 ++ e ∧ ∀ x ∈ e, x.c = 10 := by
  rw [← hL]
  unfold charsL
  split
  · rename_i h
    subst h
    exact ⟨[], rfl, fun x hx => by cases hx⟩
  · unfold withNl
    split
    · exact ⟨[], by simp, fun x hx => by cases hx⟩
    · exact ⟨_, rfl, fun x hx => by simp at hx; rw [hx]⟩

theorem get_chs {l : List UInt8} {L : List Rn} (hL : charsL l = L) {i : Nat} (hi : i < L.length) (h10 : (bytesOf L).getD i 0 ≠ 10) : i < (chs l 0).length ∧ rnF L i < rnT L i := by
  obtain ⟨e, he, hc⟩ := chs_part hL
  have h1 : i < (chs l 0).length := by
    rcases Nat.lt_or_ge i (chs l 0).length with h | h
    · exact h
    · exfalso
      apply h10
      have hx : L[i]? = e[i - (chs l 0).length]? := by rw [he, List.getElem?_append_right h]
      rw [List.getElem?_eq_getElem hi] at hx
      have hm := List.mem_of_getElem? hx.symm
      have := hc _ hm
      simp [bytesOf, List.getD, List.getElem?_eq_getElem hi, this]
  refine ⟨h1, ?_⟩
  have hx : L[i]? = some (chs l 0)[i] := by rw [he, List.getElem?_append_left h1, List.getElem?_eq_getElem h1]
  rw [rnF_of hx, rnT_of hx]
  exact (chs_mem l _ 0 (Nat.le_refl _) _ (List.getElem_mem h1)).2.1

/-- What stands from one character to another is the characters. -/
theorem back_range {l : List UInt8} {L : List Rn} (hL : charsL l = L) {i n : Nat} (hn : 0 < n) (hin : i + n ≤ L.length) (h10 : ∀ j, j < n → (bytesOf L).getD (i + j) 0 ≠ 10) : backL l (rnF L i) (rnT L (i + n - 1)) = ((bytesOf L).drop i).take n := by
  obtain ⟨e, he, hc⟩ := chs_part hL
  have h1 : i + n - 1 < (chs l 0).length := (get_chs hL (by omega) (by have := h10 (n - 1) (by omega); rw [show i + (n - 1) = i + n - 1 from by omega] at this; exact this)).1
  have h0 : i < (chs l 0).length := by omega
  have hgf : rnF L i = (chs l 0)[i].f := rnF_of (by rw [he, List.getElem?_append_left h0, List.getElem?_eq_getElem h0])
  have hgt : rnT L (i + n - 1) = (chs l 0)[i + n - 1].t := rnT_of (by rw [he, List.getElem?_append_left h1, List.getElem?_eq_getElem h1])
  have hp := (ord_pair (chs_ord l _ 0 (Nat.le_refl _))).1
  rw [List.pairwise_iff_getElem] at hp
  have hm := fun (j : Nat) (hj : j < (chs l 0).length) => chs_mem l _ 0 (Nat.le_refl _) (chs l 0)[j] (List.getElem_mem hj)
  unfold backL bk
  rw [hgf, hgt]
  have hsplit : chs l 0 = (chs l 0).take i ++ (((chs l 0).drop i).take n ++ ((chs l 0).drop i).drop n) := by rw [List.take_append_drop, List.take_append_drop]
  obtain ⟨p, hP⟩ : ∃ p, within ((chs l 0)[i].f : Int) ((chs l 0)[i + n - 1].t : Int) = p := ⟨_, rfl⟩
  rw [hP]
  have hfil : (chs l 0).filter p = ((chs l 0).drop i).take n := by
    conv => lhs; rw [hsplit]
    rw [List.filter_append, List.filter_append]
    have f1 : ((chs l 0).take i).filter p = [] := by
      rw [List.filter_eq_nil_iff]
      intro x hx
      obtain ⟨j, hj, rfl⟩ := List.getElem_of_mem hx
      rw [List.length_take] at hj
      have hji : j < i := by omega
      rw [List.getElem_take]
      have a1 := hp j i (by omega) h0 hji
      have a2 := hm j (by omega)
      rw [← hP]
      unfold within
      simp
      omega
    have f2 : (((chs l 0).drop i).take n).filter p = ((chs l 0).drop i).take n := by
      rw [List.filter_eq_self]
      intro x hx
      obtain ⟨j, hj, rfl⟩ := List.getElem_of_mem hx
      rw [List.length_take, List.length_drop] at hj
      rw [List.getElem_take, List.getElem_drop]
      rw [← hP]
      unfold within
      simp only [Bool.and_eq_true, decide_eq_true_eq]
      constructor
      · rcases Nat.eq_zero_or_pos j with rfl | hj0
        · simp
        · have a1 := hp i (i + j) h0 (by omega) (by omega)
          have a2 := hm i h0
          omega
      · by_cases hjn : j = n - 1
        · subst hjn
          have : (chs l 0)[i + (n - 1)].t = (chs l 0)[i + n - 1].t := by simp only [show i + (n - 1) = i + n - 1 from by omega]
          omega
        · have a1 := hp (i + j) (i + n - 1) (by omega) h1 (by omega)
          have a2 := hm (i + n - 1) h1
          omega
    have f3 : (((chs l 0).drop i).drop n).filter p = [] := by
      rw [List.filter_eq_nil_iff]
      intro x hx
      obtain ⟨j, hj, rfl⟩ := List.getElem_of_mem hx
      rw [List.drop_drop, List.length_drop] at hj
      simp only [List.drop_drop, List.getElem_drop]
      have a1 := hp (i + n - 1) (i + n + j) h1 (by omega) (by omega)
      have a2 := hm (i + n + j) (by omega)
      rw [← hP]
      unfold within
      simp
      omega
    rw [f1, f2, f3]
    simp
  rw [hfil, List.map_take, List.map_drop]
  unfold bytesOf
  rw [he, List.map_append, List.drop_append_of_le_length (by rw [List.length_map]; omega), List.take_append_of_le_length (by rw [List.length_drop, List.length_map]; omega)]

def posL (L : List Rn) (sz i : Nat) : Nat := if i < L.length then rnF L i else sz

/-- What holds where an item begins. -/
structure LxInv (l : List UInt8) (L : List Rn) (i : Nat) (a : Acc) : Prop where
  ok : LnOk l 0 a.lines
  shut : ∀ x ∈ a.lines, x.o = false
  last : lastT 0 a.lines = a.fr
  toks : TokOk l (posL L l.length i) a.fr a.toks
  lastk : lastTk a.fr a.toks ≤ posL L l.length i
  fr : a.fr ≤ posL L l.length i
  fin : i = L.length → a.fr = l.length ∧ a.lines ≠ []

def Good (l : List UInt8) (R : Acc) : Prop := LnOk l 0 R.lines ∧ lastT 0 R.lines = l.length ∧ (R.lines = [] ↔ l = [])

theorem posL_mono {l : List UInt8} {L : List Rn} (hL : charsL l = L) {i j : Nat} (hij : i ≤ j) (hj : j < L.length) : posL L l.length i ≤ posL L l.length j := by
  unfold posL
  rw [if_pos (by omega), if_pos hj]
  rcases Nat.lt_or_ge i j with h | h
  · have := rn_order hL h hj
    have := rn_in hL (i := i) (by omega)
    omega
  · rw [show i = j from by omega]
    exact Nat.le_refl _

theorem charsL_ne {l : List UInt8} {L : List Rn} (hL : charsL l = L) (h : 0 < L.length) : l ≠ [] := by
  rintro rfl
  rw [← hL] at h
  simp [charsL] at h

theorem last_item {L : List Rn} (hN : Nl (bytesOf L)) {i n : Nat} (h : i + n = L.length) (hn : 0 < n) : (bytesOf L).getD (i + (n - 1)) 0 = 10 := by
  have := hN.2
  rw [bytesOf_len] at this
  rw [show i + (n - 1) = L.length - 1 from by omega]
  exact this

theorem run_good {l : List UInt8} {L : List Rn} (hL : charsL l = L) (hN : Nl (bytesOf L)) : ∀ (m i : Nat) (a : Acc), L.length - i ≤ m → i ≤ L.length → LxInv l L i a → Good l (fromA L l.length i a)
  | 0, i, a, h, h2, hI => by
    rw [fromA_end (by omega)]
    have hf := hI.fin (by omega)
    have h0 := hN.1
    rw [bytesOf_len] at h0
    exact ⟨hI.ok, by rw [hI.last, hf.1], fun e => absurd e hf.2, fun e => absurd e (charsL_ne hL h0)⟩
  | m + 1, i, a, h, h2, hI => by
    by_cases hi : i < L.length
    · have hlen := bytesOf_len L
      have hin := lenA_in (L := L) hi
      rw [fromA_step hi]
      have hit := item_in (l := (bytesOf L).drop i) (by rw [List.length_drop, hlen]; omega)
      have hpi : posL L l.length i = rnF L i := by unfold posL; rw [if_pos hi]
      have hr := rn_in hL hi
      obtain ⟨hok, hshut, hlast, htoks, hlastk, hfr, hfin⟩ := hI
      rw [hpi] at htoks hlastk hfr
      cases hc : item ((bytesOf L).drop i) with
      | nl =>
        refine run_good hL hN m (i + 1) _ (by omega) hi ?_
        have hto : rnT L i ≤ toA L l.length (i + 1) := by
          unfold toA
          split
          · simp
          · exact hr.2
        have hto2 : toA L l.length (i + 1) ≤ posL L l.length (i + 1) := by
          unfold toA posL
          split
          · rename_i h3
            rw [Nat.add_sub_cancel]
            exact rn_order hL (Nat.lt_succ_self i) h3
          · exact Nat.le_refl _
        refine ⟨LnOk.snoc hok hshut hlast.symm (by simp only; omega) (htoks.up (by simp only; omega)), ?_, lastT_snoc, trivial, hto2, hto2, ?_⟩
        · intro x hx
          simp only [stepA, endA, List.mem_append, List.mem_cons, List.not_mem_nil, or_false] at hx
          rcases hx with hx | rfl
          · exact hshut x hx
          · rfl
        · intro e
          refine ⟨?_, by simp [stepA, endA]⟩
          simp only [stepA, endA, toA]
          rw [if_neg (by omega)]
      | gap n =>
        rw [hc] at hin hit
        obtain ⟨hn0, hn1, hn2⟩ := hit (by simp)
        simp only [It.len, List.length_drop, hlen, getD_drop] at hn0 hn1 hn2
        have hlt : i + n < L.length := by
          rcases Nat.lt_or_ge (i + n) L.length with h3 | h3
          · exact h3
          · exact absurd (last_item hN (by omega) hn0) (hn2 (by simp))
        have hp := posL_mono hL (Nat.le_add_right i n) hlt
        rw [hpi] at hp
        exact run_good hL hN m (i + n) _ (by omega) (by omega) ⟨hok, hshut, hlast, htoks.up hp, Nat.le_trans hlastk hp, Nat.le_trans hfr hp, fun e => by omega⟩
      | opn =>
        rw [show i + lenA L i .opn = L.length from by simp only [lenA]; omega, fromA_end (Nat.le_refl _)]
        refine ⟨LnOk.snoc hok hshut hlast.symm (by simp only [tellA]; omega) (htoks.up (by simp only; omega)), lastT_snoc, fun e => ?_, fun e => absurd e (charsL_ne hL (by omega))⟩
        simp [stepA, endA] at e
      | tk k n =>
        rw [hc] at hin hit
        obtain ⟨hn0, hn1, hn2⟩ := hit (by simp)
        simp only [It.len, List.length_drop, hlen, getD_drop] at hn0 hn1 hn2
        have hlt : i + n < L.length := by
          rcases Nat.lt_or_ge (i + n) L.length with h3 | h3
          · exact h3
          · exact absurd (last_item hN (by omega) hn0) (hn2 (by simp))
        have hb : begN ((bytesOf L).drop i) = 1 := by
          rcases begN_five ((bytesOf L).drop i) with h3 | h3 | h3 | h3 | h3
          · exact h3
          · rw [item_nl h3] at hc; cases hc
          · rw [item_sp h3] at hc; cases hc
          · rw [item_rem h3] at hc; cases hc
          · cases hq : comN (((bytesOf L).drop i).drop 2) with
            | none => rw [item_opn h3 hq] at hc; cases hc
            | some q => rw [item_com h3 hq] at hc; cases hc
        have htk : tok ((bytesOf L).drop i) = (k, n) := by
          rw [item_tk hb] at hc
          simp only [It.tk.injEq] at hc
          rw [← hc.1, ← hc.2]
        have h10 : ((bytesOf L).drop i).getD 0 0 ≠ 10 := fun e => by rw [begN_two' e] at hb; cases hb
        have hti := tok_in (l := (bytesOf L).drop i) (by rw [List.length_drop, hlen]; omega) h10
        rw [htk] at hti
        have hno : ∀ j, j < n → (bytesOf L).getD (i + j) 0 ≠ 10 := fun j hj => by
          have := hti.2.2 j hj
          rw [getD_drop] at this
          exact this
        have hback := back_range hL hn0 (by omega) hno
        have hlst := get_chs hL (i := i + n - 1) (by omega) (by have := hno (n - 1) (by omega); rw [show i + (n - 1) = i + n - 1 from by omega] at this; exact this)
        have hft : rnF L i < rnT L (i + n - 1) := by
          rcases Nat.lt_or_ge i (i + n - 1) with h3 | h3
          · have := rn_order hL h3 (by omega)
            omega
          · have e : i + n - 1 = i := by omega
            rw [e] at hlst ⊢
            exact hlst.2
        have hpn : rnT L (i + n - 1) ≤ posL L l.length (i + n) := by
          unfold posL
          rw [if_pos hlt]
          exact rn_order hL (by omega) hlt
        refine run_good hL hN m (i + n) _ (by omega) (by omega) ?_
        have hA : ∀ b : Acc, b.fr = a.fr → b.toks = a.toks → b.lines = a.lines → LxInv l L (i + n) (pushA L b k i n) := by
          intro b e1 e2 e3
          refine ⟨by simp only [pushA]; rw [e3]; exact hok, by simp only [pushA]; rw [e3]; exact hshut, by simp only [pushA]; rw [e3, e1]; exact hlast, ?_, ?_, ?_, fun e => by omega⟩
          · simp only [pushA]
            rw [e1, e2]
            exact TokOk.snoc (htoks.up (by omega)) hlastk hft hpn hback
          · simp only [pushA]
            rw [lastTk_snoc]
            exact hpn
          · simp only [pushA]
            rw [e1]
            omega
        show LxInv l L (i + n) (takeA L a k i n)
        unfold takeA
        split
        · exact hA _ rfl rfl rfl
        · exact hA _ rfl rfl rfl
    · rw [fromA_end (by omega)]
      have hf := hI.fin (by omega)
      have h0 := hN.1
      rw [bytesOf_len] at h0
      exact ⟨hI.ok, by rw [hI.last, hf.1], fun e => absurd e hf.2, fun e => absurd e (charsL_ne hL h0)⟩

theorem lines_good (l : List UInt8) (hN : charsL l = [] ∨ Nl (bytesOf (charsL l))) : Good l (linesA (charsL l) l.length) := by
  rcases hN with h | h
  · have hl : l = [] := by
      cases l with
      | nil => rfl
      | cons a r =>
        exfalso
        unfold charsL at h
        rw [if_neg (by simp)] at h
        unfold withNl at h
        split at h
        · rename_i h1
          rw [h] at h1
          simp [endsNl] at h1
        · simp at h
    subst hl
    rw [h]
    exact ⟨trivial, rfl, by simp [linesA, runA, acc0]⟩
  · refine run_good rfl h _ 0 acc0 (Nat.le_refl _) (Nat.zero_le _) ⟨trivial, fun x hx => (by cases hx), rfl, trivial, Nat.zero_le _, Nat.zero_le _, fun e => ?_⟩
    have := h.1
    rw [bytesOf_len] at this
    omega

end Go.Proofs.Ytipipookgcdfbaa
