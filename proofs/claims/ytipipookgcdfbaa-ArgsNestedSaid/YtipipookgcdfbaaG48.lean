/-
  Texts of the proof, put together: EdA, EdB, DwL.
-/
import Derived.Test.YtipipookgcdfbaaG08
import Derived.Test.YtipipookgcdfbaaG14
import Derived.Test.YtipipookgcdfbaaG27
import Derived.Test.YtipipookgcdfbaaG45

/-
  What begins somewhere hangs on the line alone: lists of bytes that end with a byte 10, and whatever stands behind.
-/
namespace Go.Proofs.Ytipipookgcdfbaa

def E10 (x : List UInt8) : Prop := 0 < x.length ∧ x.getD (x.length - 1) 0 = 10

theorem E10.drop {x : List UInt8} (h : E10 x) {i : Nat} (hi : i < x.length) : E10 (x.drop i) := by
  refine ⟨by rw [List.length_drop]; omega, ?_⟩
  rw [List.length_drop, getD_drop, show i + (x.length - i - 1) = x.length - 1 from by omega]
  exact h.2
theorem E10.cons {c : UInt8} {r : List UInt8} (h : E10 (c :: r)) (hr : r ≠ []) : E10 r := by
  have := h.drop (i := 1) (by cases r with | nil => exact absurd rfl hr | cons a b => simp)
  simpa using this
theorem E10.tail {c : UInt8} {r : List UInt8} (h : E10 (c :: r)) (hc : c ≠ 10) : E10 r := by
  refine h.cons ?_
  rintro rfl
  exact hc (by simpa using h.2)
theorem E10.app {x y : List UInt8} (hy : E10 y) : E10 (x ++ y) := by
  have h0 := hy.1
  refine ⟨by rw [List.length_append]; omega, ?_⟩
  rw [List.length_append, show x.length + y.length - 1 = x.length + (y.length - 1) from by omega, get_right]
  exact hy.2
theorem E10.next {x : List UInt8} (h : E10 x) {i : Nat} (hi : i < x.length) (hc : x.getD i 0 ≠ 10) : i + 1 < x.length := by
  rcases Nat.lt_or_ge (i + 1) x.length with h1 | h1
  · exact h1
  · exfalso
    apply hc
    rw [show i = x.length - 1 from by omega]
    exact h.2

theorem wordN_app : ∀ (x y : List UInt8), E10 x → wordN (x ++ y) = wordN x
  | [], _, h => absurd h.1 (by simp)
  | c :: r, y, h => by
    show (if isWord c then wordN (r ++ y) + 1 else 0) = (if isWord c then wordN r + 1 else 0)
    by_cases hc : isWord c = true
    · rw [if_pos hc, if_pos hc, wordN_app r y (h.tail (isWord_ne hc).1)]
    · rw [if_neg hc, if_neg hc]
theorem numN_app : ∀ (p : UInt8) (x y : List UInt8), E10 x → numN p (x ++ y) = numN p x
  | _, [], _, h => absurd h.1 (by simp)
  | p, c :: r, y, h => by
    show (if numC p c then numN c (r ++ y) + 1 else 0) = (if numC p c then numN c r + 1 else 0)
    by_cases hc : numC p c = true
    · rw [if_pos hc, if_pos hc, numN_app c r y (h.tail (numC_ne hc).1)]
    · rw [if_neg hc, if_neg hc]
theorem qN_app (q : UInt8) : ∀ (t : Bool) (x y : List UInt8), E10 x → qN q t (x ++ y) = qN q t x
  | _, [], _, h => absurd h.1 (by simp)
  | t, c :: r, y, h => by
    rw [List.cons_append, qN, qN]
    by_cases hc : c = 10
    · rw [if_pos hc, if_pos hc]
    · rw [if_neg hc, if_neg hc, qN_app q false r y (h.tail hc), qN_app q true r y (h.tail hc)]
theorem remN_app : ∀ (x y : List UInt8), E10 x → remN (x ++ y) = remN x
  | [], _, h => absurd h.1 (by simp)
  | c :: r, y, h => by
    rw [List.cons_append, remN, remN]
    by_cases hc : c = 10
    · rw [if_pos hc, if_pos hc]
    · rw [if_neg hc, if_neg hc, remN_app r y (h.tail hc)]
theorem comN_some : ∀ (x y : List UInt8) (n : Nat), comN x = some n → comN (x ++ y) = some n
  | [], _, _, h => by cases h
  | c :: r, y, n, h => by
    rw [comN] at h
    rw [List.cons_append, comN]
    by_cases hc : c = 42 ∧ r.getD 0 0 = 47
    · rw [if_pos hc] at h
      have hr : 0 < r.length := getD_lt (by rw [hc.2]; decide)
      rw [if_pos ⟨hc.1, by rw [get_left hr]; exact hc.2⟩]
      exact h
    · rw [if_neg hc] at h
      rw [Option.map_eq_some_iff] at h
      obtain ⟨m, hm, rfl⟩ := h
      have hr : 0 < r.length := by
        cases r with
        | nil => cases hm
        | cons a b => simp
      rw [if_neg (by rw [get_left hr]; exact hc), comN_some r y m hm]
      rfl
theorem comN_none : ∀ (x y : List UInt8), E10 x → comN x = none → comN (x ++ y) = (comN y).map (· + x.length)
  | [], _, h, _ => absurd h.1 (by simp)
  | c :: r, y, h, hn => by
    rw [comN] at hn
    rw [List.cons_append, comN]
    by_cases hc : c = 42 ∧ r.getD 0 0 = 47
    · rw [if_pos hc] at hn
      cases hn
    · rw [if_neg hc] at hn
      rw [Option.map_eq_none_iff] at hn
      cases r with
      | nil =>
        have h10 : c = 10 := by simpa using h.2
        rw [if_neg (by rw [h10]; rintro ⟨h1, -⟩; exact absurd h1 (by decide))]
        rfl
      | cons a b =>
        rw [if_neg (by rw [get_left (by simp)]; exact hc), comN_none (a :: b) y (h.cons (by simp)) hn, Option.map_map]
        rfl

theorem lett_app {x : List UInt8} (h : E10 x) (y : List UInt8) : lettN (x ++ y) = lettN x := by
  have g0 : (x ++ y).getD 0 0 = x.getD 0 0 := get_left h.1
  by_cases h0 : x.getD 0 0 = 10
  · unfold lettN
    rw [g0, h0]
    simp
  · have h1 := h.next h.1 h0
    have g1 : (x ++ y).getD 1 0 = x.getD 1 0 := get_left h1
    by_cases h10 : x.getD 1 0 = 10
    · unfold lettN
      rw [g0, g1, h10]
      simp
    · have h2 := h.next h1 h10
      have g2 : (x ++ y).getD 2 0 = x.getD 2 0 := get_left h2
      unfold lettN
      rw [g0, g1, g2]
theorem lett_in10 {x : List UInt8} (h : E10 x) : lettN x < x.length := by
  rcases lettN_is x with h1 | ⟨h1, h2, -⟩ | ⟨h1, h2, h3, -⟩
  · rw [h1]; exact h.1
  · rw [h1]; exact h.next h.1 (isWord_ne h2).1
  · rw [h1]; exact h.next (h.next h.1 (isWord_ne h2).1) (isWord_ne h3).1
theorem conN_app {x : List UInt8} (h : E10 x) (y : List UInt8) : conN (x ++ y) = conN x := by
  have hl := lett_in10 h
  have hg : (x ++ y).getD (lettN x) 0 = x.getD (lettN x) 0 := get_left hl
  have go : ∀ q : UInt8, q ≠ 10 → x.getD (lettN x) 0 = q → qN q false ((x ++ y).drop (lettN x + 1)) = qN q false (x.drop (lettN x + 1)) := by
    intro q hq he
    have h1 := h.next hl (by rw [he]; exact hq)
    rw [List.drop_append_of_le_length (by omega), qN_app q false _ y (h.drop h1)]
  unfold conN
  rw [lett_app h, hg]
  by_cases h1 : x.getD (lettN x) 0 = 34
  · rw [if_pos h1, if_pos h1, go 34 (by decide) h1]
  · rw [if_neg h1, if_neg h1]
    by_cases h2 : x.getD (lettN x) 0 = 39
    · rw [if_pos h2, if_pos h2, go 39 (by decide) h2]
    · rw [if_neg h2, if_neg h2]
theorem find_eqs {α : Type} {f g : α → Bool} : ∀ {l : List α}, (∀ x ∈ l, f x = g x) → l.find? f = l.find? g
  | [], _ => rfl
  | a :: r, h => by
    rw [List.find?_cons, List.find?_cons, h a (List.mem_cons_self), find_eqs fun x hx => h x (List.mem_cons_of_mem _ hx)]
theorem punct_app {x : List UInt8} (h : E10 x) (y : List UInt8) : punctN (x ++ y) = punctN x := by
  have : PL.find? (fun p => p.isPrefixOf (x ++ y)) = PL.find? (fun p => p.isPrefixOf x) := by
    apply find_eqs
    intro p hp
    rw [Bool.eq_iff_iff, List.isPrefixOf_iff_prefix, List.isPrefixOf_iff_prefix]
    constructor
    · intro hpre
      by_cases hl : p.length ≤ x.length
      · exact List.prefix_of_prefix_length_le hpre (List.prefix_append x y) hl
      · exfalso
        have hx : x <+: p := List.prefix_of_prefix_length_le (List.prefix_append x y) hpre (by omega)
        have h1 := prefix_get hx (j := x.length - 1) (by have := h.1; omega)
        rw [h.2] at h1
        have hm := get_mem (p := p) (j := x.length - 1) (by omega)
        rw [h1] at hm
        exact (PL_no p hp 10 hm).1 rfl
    · intro hpre
      exact hpre.trans (List.prefix_append x y)
  unfold punctN
  rw [this]
theorem tok_app {x : List UInt8} (h : E10 x) (h0 : x.getD 0 0 ≠ 10) (y : List UInt8) : tok (x ++ y) = tok x := by
  have h1 := h.next h.1 h0
  have hd := h.drop h1
  unfold tok
  rw [conN_app h, get_left h.1, get_left h1, List.drop_append_of_le_length (by omega), wordN_app _ _ hd, numN_app _ _ _ hd, punct_app h]
theorem begN_app {x : List UInt8} (h : E10 x) (y : List UInt8) : begN (x ++ y) = begN x := by
  unfold begN
  rw [get_left h.1]
  by_cases h0 : x.getD 0 0 = 10
  · rw [if_pos h0, if_pos h0]
  · rw [if_neg h0, if_neg h0, get_left (h.next h.1 h0)]
theorem item_app {x : List UInt8} (h : E10 x) (ho : item x ≠ .opn) (y : List UInt8) : item (x ++ y) = item x := by
  have hb := begN_app h y
  rcases begN_five x with h1 | h1 | h1 | h1 | h1
  · rw [item_tk h1, item_tk (by rw [hb]; exact h1), tok_app h (fun e => by rw [begN_two' e] at h1; cases h1)]
  · rw [item_nl h1, item_nl (by rw [hb]; exact h1)]
  · rw [item_sp h1, item_sp (by rw [hb]; exact h1)]
  · rw [item_rem h1, item_rem (by rw [hb]; exact h1), remN_app x y h]
  · have h5 := begN_fiveC h1
    have hl1 := h.next h.1 (by rw [h5.1]; decide)
    cases hc : comN (x.drop 2) with
    | none => exact absurd (item_opn h1 hc) ho
    | some n =>
      rw [item_com h1 hc, item_com (n := n) (by rw [hb]; exact h1) ?_]
      rw [List.drop_append_of_le_length (by omega)]
      exact comN_some _ y n hc
/-- A comment that does not end in the first piece ends behind it, or not at all. -/
theorem item_opn_app {x : List UInt8} (h : E10 x) (ho : item x = .opn) (y : List UInt8) : (item (x ++ y) = .opn ∧ comN y = none) ∨ ∃ n, comN y = some n ∧ item (x ++ y) = .gap (x.length + n) := by
  have hb := begN_app h y
  rcases begN_five x with h1 | h1 | h1 | h1 | h1
  · rw [item_tk h1] at ho; cases ho
  · rw [item_nl h1] at ho; cases ho
  · rw [item_sp h1] at ho; cases ho
  · rw [item_rem h1] at ho; cases ho
  · have h5 := begN_fiveC h1
    have hl1 := h.next h.1 (by rw [h5.1]; decide)
    have hl2 := h.next hl1 (by rw [h5.2]; decide)
    cases hc : comN (x.drop 2) with
    | some n => rw [item_com h1 hc] at ho; cases ho
    | none =>
      have hd := comN_none _ y (h.drop hl2) hc
      rw [← List.drop_append_of_le_length (by omega)] at hd
      cases hy : comN y with
      | none =>
        rw [hy] at hd
        exact .inl ⟨item_opn (by rw [hb]; exact h1) hd, rfl⟩
      | some n =>
        rw [hy] at hd
        refine .inr ⟨n, rfl, ?_⟩
        rw [item_com (by rw [hb]; exact h1) hd, List.length_drop]
        show It.gap (n + (x.length - (0 + 1 + 1)) + 2) = _
        congr 1
        omega

end Go.Proofs.Ytipipookgcdfbaa

/-
  The run over two pieces, of which the first is shut.
-/
namespace Go.Proofs.Ytipipookgcdfbaa

def shTk (d : Nat) (t : Tk) : Tk := ⟨t.k, t.x, t.sp, d + t.f, d + t.t⟩
def shLn (d : Nat) (l : Ln) : Ln := ⟨l.toks.map (shTk d), d + l.f, d + l.t, l.o⟩
def shDg (d : Nat) (g : Dg) : Dg := ⟨g.c, d + g.f, d + g.t⟩
def joinA (d : Nat) (a b : Acc) : Acc := ⟨d + b.fr, b.sp, b.toks.map (shTk d), a.lines ++ b.lines.map (shLn d), a.diags ++ b.diags.map (shDg d)⟩
def opnA (a : Acc) : Bool := match a.lines.getLast? with
  | some l => l.o
  | none => false

theorem opnA_end (a : Acc) (to : Nat) (o : Bool) : opnA (endA a to o) = o := by
  unfold opnA endA
  simp

theorem bytes_app (L1 L2 : List Rn) : bytesOf (L1 ++ L2) = bytesOf L1 ++ bytesOf L2 := by simp [bytesOf]
theorem bytes_sh (d : Nat) (L : List Rn) : bytesOf (L.map (sh d)) = bytesOf L := map_sh d L
theorem rnF_left {L1 L2 : List Rn} {i : Nat} (h : i < L1.length) : rnF (L1 ++ L2) i = rnF L1 i := by
  unfold rnF
  rw [List.getElem?_append_left h]
theorem rnT_left {L1 L2 : List Rn} {i : Nat} (h : i < L1.length) : rnT (L1 ++ L2) i = rnT L1 i := by
  unfold rnT
  rw [List.getElem?_append_left h]
theorem rnF_right {L1 L2 : List Rn} {d j : Nat} (h : j < L2.length) : rnF (L1 ++ L2.map (sh d)) (L1.length + j) = d + rnF L2 j := by
  unfold rnF
  rw [List.getElem?_append_right (by omega), show L1.length + j - L1.length = j from by omega, List.getElem?_map, List.getElem?_eq_getElem h]
  rfl
theorem rnT_right {L1 L2 : List Rn} {d j : Nat} (h : j < L2.length) : rnT (L1 ++ L2.map (sh d)) (L1.length + j) = d + rnT L2 j := by
  unfold rnT
  rw [List.getElem?_append_right (by omega), show L1.length + j - L1.length = j from by omega, List.getElem?_map, List.getElem?_eq_getElem h]
  rfl

theorem takeA_left {L1 L2 : List Rn} {a : Acc} {k i n : Nat} (hn : 0 < n) (h : i + n ≤ L1.length) : takeA (L1 ++ L2) a k i n = takeA L1 a k i n := by
  have e1 : (bytesOf (L1 ++ L2)).getD i 0 = (bytesOf L1).getD i 0 := by rw [bytes_app, get_left (by rw [bytesOf_len]; omega)]
  have e2 : ((bytesOf (L1 ++ L2)).drop i).take n = ((bytesOf L1).drop i).take n := by
    rw [bytes_app, List.drop_append_of_le_length (by rw [bytesOf_len]; omega), List.take_append_of_le_length (by rw [List.length_drop, bytesOf_len]; omega)]
  unfold takeA pushA tellA
  rw [e1, e2, rnF_left (by omega), rnT_left (show i + n - 1 < L1.length by omega)]

theorem item_last {L : List Rn} (hE : E10 (bytesOf L)) {i : Nat} (hi : i < L.length) (h0 : item ((bytesOf L).drop i) ≠ .opn) (h : i + lenA L i (item ((bytesOf L).drop i)) = L.length) : item ((bytesOf L).drop i) = .nl := by
  have hlen := bytesOf_len L
  have hit := item_in (l := (bytesOf L).drop i) (by rw [List.length_drop, hlen]; omega) h0
  by_cases hn : item ((bytesOf L).drop i) = .nl
  · exact hn
  · exfalso
    apply hit.2.2 hn
    have e : lenA L i (item ((bytesOf L).drop i)) = (item ((bytesOf L).drop i)).len := by
      cases hc : item ((bytesOf L).drop i) with
      | nl => rfl
      | gap n => rfl
      | opn => exact absurd hc h0
      | tk k n => rfl
    rw [e] at h
    rw [getD_drop, show i + ((item ((bytesOf L).drop i)).len - 1) = (bytesOf L).length - 1 from by omega]
    exact hE.2

/-- Over the first piece the run is that of the piece alone. -/
theorem run_first {L1 L2 : List Rn} {sz1 : Nat} (sz : Nat) (hE : E10 (bytesOf L1)) (h2 : L2 ≠ []) (hT : rnT L1 (L1.length - 1) = sz1) : ∀ (m i : Nat) (a : Acc), L1.length - i ≤ m → i < L1.length → opnA (fromA L1 sz1 i a) = false →
    fromA (L1 ++ L2) sz i a = fromA (L1 ++ L2) sz L1.length (fromA L1 sz1 i a) ∧ (fromA L1 sz1 i a).fr = sz1 ∧ (fromA L1 sz1 i a).sp = false ∧ (fromA L1 sz1 i a).toks = []
  | 0, i, a, h, hi, _ => by omega
  | m + 1, i, a, h, hi, ho => by
    have hlen := bytesOf_len L1
    have h2l : 0 < L2.length := by cases L2 with | nil => exact absurd rfl h2 | cons a b => simp
    have hin := lenA_in (L := L1) hi
    have hx : E10 ((bytesOf L1).drop i) := hE.drop (by omega)
    rw [fromA_step hi] at ho ⊢
    rw [fromA_step (L := L1 ++ L2) (by rw [List.length_append]; omega)]
    have ho1 : item ((bytesOf L1).drop i) ≠ .opn := by
      intro hc
      rw [hc] at ho
      rw [show i + lenA L1 i .opn = L1.length from by simp only [lenA]; omega, fromA_end (Nat.le_refl _)] at ho
      simp only [stepA, opnA_end] at ho
      cases ho
    have hit : item ((bytesOf (L1 ++ L2)).drop i) = item ((bytesOf L1).drop i) := by
      rw [bytes_app, List.drop_append_of_le_length (by omega), item_app hx ho1]
    rw [hit]
    have hlast := item_last hE hi ho1
    have hlA : lenA (L1 ++ L2) i (item ((bytesOf L1).drop i)) = lenA L1 i (item ((bytesOf L1).drop i)) := by
      cases hc : item ((bytesOf L1).drop i) with
      | nl => rfl
      | gap n => rfl
      | opn => exact absurd hc ho1
      | tk k n => rfl
    rw [hlA]
    have hst : stepA (L1 ++ L2) sz i a (item ((bytesOf L1).drop i)) = stepA L1 sz1 i a (item ((bytesOf L1).drop i)) := by
      cases hc : item ((bytesOf L1).drop i) with
      | nl =>
        simp only [stepA]
        congr 1
        unfold toA
        rw [if_pos (by rw [List.length_append]; omega), show i + 1 - 1 = i from rfl, rnT_left hi]
        split
        · rfl
        · rw [← hT, show L1.length - 1 = i from by omega]
      | gap n => rfl
      | opn => exact absurd hc ho1
      | tk k n =>
        rw [hc] at hin
        exact takeA_left hin.1 hin.2
    rw [hst]
    by_cases hend : i + lenA L1 i (item ((bytesOf L1).drop i)) = L1.length
    · have hnl := hlast hend
      rw [hend, fromA_end (L := L1) (Nat.le_refl _)]
      refine ⟨rfl, ?_⟩
      rw [hnl] at hend ⊢
      simp only [stepA, endA, toA]
      simp only [lenA] at hend
      exact ⟨by rw [if_neg (by omega)], by trivial⟩
    · exact run_first sz hE h2 hT m _ _ (by omega) (by omega) ho

theorem joinA_tell {L1 L2 : List Rn} {d : Nat} {a b : Acc} {c j e : Nat} (h1 : j < L2.length) (h0 : 0 < e) (h2 : e ≤ L2.length) : tellA (L1 ++ L2.map (sh d)) (joinA d a b) c (L1.length + j) (L1.length + e) = joinA d a (tellA L2 b c j e) := by
  unfold tellA joinA
  rw [rnF_right h1, show L1.length + e - 1 = L1.length + (e - 1) from by omega, rnT_right (by omega)]
  simp [shDg]

theorem takeA_right {L1 L2 : List Rn} {d : Nat} {a b : Acc} {k j n : Nat} (hn : 0 < n) (h : j + n ≤ L2.length) : takeA (L1 ++ L2.map (sh d)) (joinA d a b) k (L1.length + j) n = joinA d a (takeA L2 b k j n) := by
  have hB : bytesOf (L1 ++ L2.map (sh d)) = bytesOf L1 ++ bytesOf L2 := by rw [bytes_app, bytes_sh]
  have e1 : (bytesOf (L1 ++ L2.map (sh d))).getD (L1.length + j) 0 = (bytesOf L2).getD j 0 := by
    rw [hB, ← bytesOf_len L1, get_right]
  have e2 : (bytesOf (L1 ++ L2.map (sh d))).drop (L1.length + j) = (bytesOf L2).drop j := by
    rw [hB, ← bytesOf_len L1, List.drop_append]
    simp
  have hp : ∀ b : Acc, pushA (L1 ++ L2.map (sh d)) (joinA d a b) k (L1.length + j) n = joinA d a (pushA L2 b k j n) := by
    intro b
    unfold pushA
    rw [e2, rnF_right (by omega), show L1.length + j + n - 1 = L1.length + (j + n - 1) from by omega, rnT_right (by omega)]
    simp [joinA, shTk]
  unfold takeA
  rw [e1]
  split
  · rw [Nat.add_assoc, joinA_tell (by omega) (by omega) (by omega)]
    exact hp _
  · exact hp _

/-- Behind it the run is that of the second piece, moved. -/
theorem run_second {L1 L2 : List Rn} (d sz2 : Nat) (a : Acc) : ∀ (m j : Nat) (b : Acc), L2.length - j ≤ m → j ≤ L2.length →
    fromA (L1 ++ L2.map (sh d)) (d + sz2) (L1.length + j) (joinA d a b) = joinA d a (fromA L2 sz2 j b)
  | 0, j, b, h, hj => by
    rw [fromA_end (L := L2) (by omega), fromA_end (by rw [List.length_append, List.length_map]; omega)]
  | m + 1, j, b, h, hj => by
    by_cases hi : j < L2.length
    · have hin := lenA_in (L := L2) hi
      have hlen := bytesOf_len L2
      have hB : bytesOf (L1 ++ L2.map (sh d)) = bytesOf L1 ++ bytesOf L2 := by rw [bytes_app, bytes_sh]
      have e2 : (bytesOf (L1 ++ L2.map (sh d))).drop (L1.length + j) = (bytesOf L2).drop j := by
        rw [hB, ← bytesOf_len L1, List.drop_append]
        simp
      rw [fromA_step hi, fromA_step (L := L1 ++ L2.map (sh d)) (by rw [List.length_append, List.length_map]; omega), e2]
      have hl : lenA (L1 ++ L2.map (sh d)) (L1.length + j) (item ((bytesOf L2).drop j)) = lenA L2 j (item ((bytesOf L2).drop j)) := by
        cases hc : item ((bytesOf L2).drop j) with
        | nl => rfl
        | gap n => rfl
        | opn =>
          simp only [lenA]
          rw [List.length_append, List.length_map]
          omega
        | tk k n => rfl
      have hs : stepA (L1 ++ L2.map (sh d)) (d + sz2) (L1.length + j) (joinA d a b) (item ((bytesOf L2).drop j)) = joinA d a (stepA L2 sz2 j b (item ((bytesOf L2).drop j))) := by
        have hend : ∀ (b : Acc) (to : Nat) (o : Bool), endA (joinA d a b) (d + to) o = joinA d a (endA b to o) := by
          intro b to o
          unfold endA joinA
          simp [shLn]
        cases hc : item ((bytesOf L2).drop j) with
        | nl =>
          simp only [stepA]
          rw [← hend]
          congr 1
          unfold toA
          rw [List.length_append, List.length_map]
          by_cases hlt : j + 1 < L2.length
          · rw [if_pos (by omega), if_pos hlt, show L1.length + j + 1 - 1 = L1.length + j from rfl, rnT_right hi]
            rfl
          · rw [if_neg (by omega), if_neg hlt]
        | gap n => rfl
        | opn =>
          have h5 : begN ((bytesOf L2).drop j) = 5 := by
            rcases begN_five ((bytesOf L2).drop j) with h1 | h1 | h1 | h1 | h1
            · rw [item_tk h1] at hc; cases hc
            · rw [item_nl h1] at hc; cases hc
            · rw [item_sp h1] at hc; cases hc
            · rw [item_rem h1] at hc; cases hc
            · exact h1
          have h6 : 1 < ((bytesOf L2).drop j).length := getD_lt (by rw [(begN_fiveC h5).2]; decide)
          rw [List.length_drop, hlen] at h6
          simp only [stepA]
          rw [Nat.add_assoc, joinA_tell hi (by omega) (by omega), hend]
        | tk k n =>
          rw [hc] at hin
          exact takeA_right hin.1 hin.2
      rw [hl, hs, Nat.add_assoc]
      exact run_second d sz2 a m _ _ (by omega) hin.2
    · rw [fromA_end (L := L2) (by omega), fromA_end (by rw [List.length_append, List.length_map]; omega)]

theorem linesA_app {L1 L2 : List Rn} {sz1 sz2 : Nat} (hE : E10 (bytesOf L1)) (h2 : L2 ≠ []) (hT : rnT L1 (L1.length - 1) = sz1) (ho : opnA (linesA L1 sz1) = false) :
    linesA (L1 ++ L2.map (sh sz1)) (sz1 + sz2) = joinA sz1 (linesA L1 sz1) (linesA L2 sz2) := by
  have hl : 0 < L1.length := by have := hE.1; rw [bytesOf_len] at this; exact this
  have h2' : L2.map (sh sz1) ≠ [] := by simpa using h2
  obtain ⟨r1, r2, r3, r4⟩ := run_first (sz1 + sz2) hE h2' hT L1.length 0 acc0 (by omega) hl ho
  have e1 : joinA sz1 (fromA L1 sz1 0 acc0) acc0 = fromA L1 sz1 0 acc0 := by
    unfold joinA
    generalize hR : fromA L1 sz1 0 acc0 = R at r2 r3 r4
    obtain ⟨fr, sp, toks, lines, diags⟩ := R
    simp only at r2 r3 r4
    subst r2 r3 r4
    simp [acc0]
  have := run_second (L1 := L1) (L2 := L2) sz1 sz2 (fromA L1 sz1 0 acc0) L2.length 0 acc0 (by omega) (by omega)
  rw [e1, Nat.add_zero] at this
  exact r1.trans this

end Go.Proofs.Ytipipookgcdfbaa

/-
  A directive's line, lexed: over lists.
-/
namespace Go.Proofs.Ytipipookgcdfbaa
open Go.RowKit

/-- How many tokens are left up to a line's end. -/
def tkN : Nat → List UInt8 → Nat
  | 0, _ => 0
  | m + 1, l => match item l with
    | .nl => 0
    | .opn => 0
    | .gap n => tkN m (l.drop n)
    | .tk _ n => tkN m (l.drop n) + 1

theorem takeA_is (L : List Rn) (a : Acc) (k i n : Nat) : (takeA L a k i n).lines = a.lines ∧ ∃ u : Tk, (takeA L a k i n).toks = a.toks ++ [u] ∧ u.k = k ∧ u.x = ((bytesOf L).drop i).take n := by
  unfold takeA pushA
  split
  · exact ⟨rfl, _, rfl, rfl, rfl⟩
  · exact ⟨rfl, _, rfl, rfl, rfl⟩

theorem lines_more (L : List Rn) (sz : Nat) : ∀ (m i : Nat) (a : Acc), ∃ r, (runA L sz m i a).lines = a.lines ++ r
  | 0, i, a => ⟨[], by simp [runA]⟩
  | m + 1, i, a => by
    unfold runA
    split
    · obtain ⟨r, hr⟩ := lines_more L sz m (i + lenA L i (item ((bytesOf L).drop i))) (stepA L sz i a (item ((bytesOf L).drop i)))
      have hs : ∃ r', (stepA L sz i a (item ((bytesOf L).drop i))).lines = a.lines ++ r' := by
        cases item ((bytesOf L).drop i) with
        | nl => exact ⟨_, rfl⟩
        | gap n => exact ⟨[], by simp [stepA]⟩
        | opn => exact ⟨_, rfl⟩
        | tk k n => exact ⟨[], by simp [stepA, (takeA_is L a k i n).1]⟩
      obtain ⟨r', hr'⟩ := hs
      exact ⟨r' ++ r, by rw [hr, hr', List.append_assoc]⟩
    · exact ⟨[], by simp⟩

/-- The line that is under way, to its end. -/
theorem line_from {L : List Rn} {sz : Nat} (hE : E10 (bytesOf L)) : ∀ (m i : Nat) (a : Acc), L.length - i ≤ m → i < L.length → a.lines = [] →
    ∃ U ln r, (fromA L sz i a).lines = ln :: r ∧ ln.toks = a.toks ++ U ∧ U.length = tkN m ((bytesOf L).drop i)
  | 0, i, a, hm, hi, _ => by omega
  | m + 1, i, a, hm, hi, ha => by
    have hl := lenA_in hi
    rw [fromA_step hi]
    have hfin : ∀ (j : Nat) (b : Acc) (ln : Ln), b.lines = [ln] → ∃ r, (fromA L sz j b).lines = ln :: r := fun j b ln hb => by
      obtain ⟨r, hr⟩ := lines_more L sz (L.length - j) j b
      exact ⟨r, by unfold fromA; rw [hr, hb]; rfl⟩
    cases hit : item ((bytesOf L).drop i) with
    | nl =>
      obtain ⟨r, hr⟩ := hfin (i + lenA L i .nl) (stepA L sz i a .nl) ⟨a.toks, a.fr, toA L sz (i + 1), false⟩ (by simp [stepA, endA, ha])
      exact ⟨[], _, r, hr, by simp, by simp [tkN, hit]⟩
    | opn =>
      obtain ⟨r, hr⟩ := hfin (i + lenA L i .opn) (stepA L sz i a .opn) ⟨a.toks, a.fr, sz, true⟩ (by simp [stepA, endA, tellA, ha])
      exact ⟨[], _, r, hr, by simp, by simp [tkN, hit]⟩
    | gap n =>
      rw [hit] at hl
      have hlt : i + lenA L i (.gap n) < L.length := by
        rcases Nat.lt_or_ge (i + lenA L i (.gap n)) L.length with h | h
        · exact h
        · have := item_last hE hi (by rw [hit]; simp) (by rw [hit]; omega)
          rw [hit] at this
          cases this
      simp only [lenA] at hl hlt
      obtain ⟨U, ln, r, h1, h2, h3⟩ := line_from hE m (i + n) (stepA L sz i a (.gap n)) (by omega) hlt ha
      refine ⟨U, ln, r, h1, h2, ?_⟩
      rw [h3]
      simp [tkN, hit]
    | tk k n =>
      rw [hit] at hl
      have hlt : i + lenA L i (.tk k n) < L.length := by
        rcases Nat.lt_or_ge (i + lenA L i (.tk k n)) L.length with h | h
        · exact h
        · have := item_last hE hi (by rw [hit]; simp) (by rw [hit]; omega)
          rw [hit] at this
          cases this
      simp only [lenA] at hl hlt
      obtain ⟨t1, u, t2, -, -⟩ := takeA_is L a k i n
      obtain ⟨U, ln, r, h1, h2, h3⟩ := line_from hE m (i + n) (stepA L sz i a (.tk k n)) (by omega) hlt (t1.trans ha)
      refine ⟨u :: U, ln, r, h1, ?_, ?_⟩
      · rw [h2]
        show (takeA L a k i n).toks ++ U = _
        rw [t2]
        simp
      · simp [tkN, hit, h3]

/-- Blanks ahead. -/
theorem run_blanks {L : List Rn} {sz : Nat} (t : List UInt8) : ∀ (b : List UInt8) (i : Nat) (a : Acc), (∀ c ∈ b, c = 32 ∨ c = 9) → (bytesOf L).drop i = b ++ t →
    ∃ a', fromA L sz i a = fromA L sz (i + b.length) a' ∧ a'.toks = a.toks ∧ a'.lines = a.lines ∧ (bytesOf L).drop (i + b.length) = t
  | [], i, a, _, hd => ⟨a, rfl, rfl, rfl, hd⟩
  | c :: b, i, a, hb, hd => by
    have hi : i < L.length := by
      rw [← bytesOf_len]
      rcases Nat.lt_or_ge i (bytesOf L).length with h | h
      · exact h
      · rw [List.drop_eq_nil_of_le h] at hd
        cases hd
    have hit : item ((bytesOf L).drop i) = .gap 1 := by
      rw [hd]
      rcases hb c List.mem_cons_self with rfl | rfl
      · rfl
      · rfl
    have hd1 : (bytesOf L).drop (i + 1) = b ++ t := by
      rw [← List.drop_drop, hd]
      rfl
    obtain ⟨a', h1, h2, h3, h4⟩ := run_blanks t b (i + 1) (stepA L sz i a (.gap 1)) (fun c hc => hb c (List.mem_cons_of_mem _ hc)) hd1
    refine ⟨a', ?_, h2, h3, ?_⟩
    · rw [fromA_step hi, hit]
      simp only [lenA]
      rw [h1, List.length_cons, show i + 1 + b.length = i + (b.length + 1) from by omega]
    · rw [List.length_cons, show i + (b.length + 1) = i + 1 + b.length from by omega]
      exact h4

/-- A token ahead. -/
theorem run_tk {L : List Rn} {sz k i : Nat} {x t : List UInt8} {a : Acc} (hd : (bytesOf L).drop i = x ++ t) (hx : x ≠ []) (hit : item (x ++ t) = .tk k x.length) :
    ∃ a' u, fromA L sz i a = fromA L sz (i + x.length) a' ∧ a'.lines = a.lines ∧ a'.toks = a.toks ++ [u] ∧ u.k = k ∧ u.x = x ∧ (bytesOf L).drop (i + x.length) = t := by
  have hi : i < L.length := by
    rw [← bytesOf_len]
    rcases Nat.lt_or_ge i (bytesOf L).length with h | h
    · exact h
    · rw [List.drop_eq_nil_of_le h] at hd
      exact absurd (List.append_eq_nil_iff.1 hd.symm).1 hx
  obtain ⟨t1, u, t2, t3, t4⟩ := takeA_is L a k i x.length
  refine ⟨takeA L a k i x.length, u, ?_, t1, t2, t3, ?_, ?_⟩
  · rw [fromA_step hi, hd, hit]
    rfl
  · rw [t4, hd]
    simp
  · rw [← List.drop_drop, hd]
    simp

def kxT (u : Tk) : Nat × List UInt8 := (u.k, u.x)

/-- What begins there, of a text that was put together. -/
theorem hash_item {c : UInt8} (hc : c ∈ ([32, 9, 10, 105, 101, 100, 117, 108, 112] : List UInt8)) (r : List UInt8) : item ([35] ++ c :: r) = .tk 5 1 ∧ item ([37, 58] ++ c :: r) = .tk 5 2 := by
  simp only [List.mem_cons, List.not_mem_nil, or_false] at hc
  rcases hc with rfl | rfl | rfl | rfl | rfl | rfl | rfl | rfl | rfl <;> exact ⟨rfl, rfl⟩
theorem word_item {k : Nat} (h1 : 2 ≤ k) (h2 : k < 14) (r : List UInt8) : item ((wB k).data.toList ++ 32 :: r) = .tk 1 (wB k).data.toList.length ∧ item (((wB k).data.toList ++ [120]) ++ 10 :: r) = .tk 1 ((wB k).data.toList ++ [120]).length ∧ ∃ c q, (wB k).data.toList = c :: q ∧ c ∈ ([32, 9, 10, 105, 101, 100, 117, 108, 112] : List UInt8) := by
  have : k = 2 ∨ k = 3 ∨ k = 4 ∨ k = 5 ∨ k = 6 ∨ k = 7 ∨ k = 8 ∨ k = 9 ∨ k = 10 ∨ k = 11 ∨ k = 12 ∨ k = 13 := by omega
  rcases this with rfl | rfl | rfl | rfl | rfl | rfl | rfl | rfl | rfl | rfl | rfl | rfl <;> exact ⟨rfl, rfl, _, _, rfl, by decide⟩
theorem word_no {k : Nat} (h1 : 2 ≤ k) (h2 : k < 14) : wKind ⟨((wB k).data.toList ++ [120]).toArray⟩ = 14 := by
  have : k = 2 ∨ k = 3 ∨ k = 4 ∨ k = 5 ∨ k = 6 ∨ k = 7 ∨ k = 8 ∨ k = 9 ∨ k = 10 ∨ k = 11 ∨ k = 12 ∨ k = 13 := by omega
  rcases this with rfl | rfl | rfl | rfl | rfl | rfl | rfl | rfl | rfl | rfl | rfl | rfl <;> decide

end Go.Proofs.Ytipipookgcdfbaa
