/-
  Texts of the proof, put together: SuPt, SuBd.
-/
import Derived.Test.YtobplffailbkbaaG44
import Derived.Test.YtobplffailbkbaaG42
import Derived.Test.YtobplffailbkbaaG33
import Derived.Test.YtobplffailbkbaaG37

/-
  The next part: the project's put, whatever it is; how great the row grows.
-/
namespace Go.Proofs.Ytobplffailbkbaa
open Go.RowKit Go.Maps

theorem put_any {V : World} {r : Nat} {S : Rw} {ta : Option Addr} {tc : Nat} {fa : Option Addr} {fc : Nat} {da : Option Addr} {dc : Nat} {xa : Option Addr} {xc : Nat} {w : World} (h : RW V r S ta tc fa fc da dc xa xc w) (q : Pt) (sa : Option Addr) (sc : Nat) (hT : HeldIn (Deep V r) V (ToksX q.T (.slice sa q.T.length sc))) (hfit : PutFit S q) (hd : S.D.length + 1 ≤ 1000000) :
    Calls Try.prog 32 #[.pointer (some ⟨r, 0, none⟩), ptV q (.slice sa q.T.length sc)] w (AddPost V r (putL S q)) := by
  cases hq : q.p with
  | true => exact put_paste h q sa _ sc hq
  | false =>
    cases hs : S.p with
    | false => exact put_first h q sa sc hT hfit hq hs
    | true =>
      by_cases ha : S.a < S.T.length
      · cases hqt : q.T with
        | nil =>
          rw [← hqt]
          exact put_skip h q sa sc hT hfit hq hs fun e => e.2 hqt
        | cons t s =>
          rw [← hqt]
          obtain ⟨b, S', hg⟩ : ∃ b S', growR S t = (b, S') := ⟨_, _, rfl⟩
          cases b with
          | true => exact put_grow h q sa sc hT hfit hq hs ha hqt hg
          | false =>
            have hk := (grow_keep S t hfit.text hfit.lens (hfit.news t (by rw [hqt]; exact List.mem_cons_self))).2.1
            rw [hg] at hk
            exact put_stay h q sa sc hT hfit hq hs ha hqt hg (by rw [hk]; exact hd)
      · exact put_skip h q sa sc hT hfit hq hs fun e => ha e.1

/-- How great a row is: its longest text, its length, its diagnostics. -/
structure Sized (S : Rw) (B N K : Nat) : Prop where
  lens : ∀ l ∈ S.T, l.x.size ≤ B
  text : S.x.length ≤ B
  toks : S.T.length ≤ N
  dgs : S.D.length ≤ K
  sits : ∀ l ∈ S.T, l.ss.length ≤ 500000
theorem Sized.mono {S : Rw} {B N K B' N' K' : Nat} (h : Sized S B N K) (hB : B ≤ B') (hN : N ≤ N') (hK : K ≤ K') : Sized S B' N' K' :=
  ⟨fun l hl => Nat.le_trans (h.lens l hl) hB, Nat.le_trans h.text hB, Nat.le_trans h.toks hN, Nat.le_trans h.dgs hK, h.sits⟩
theorem sized_nil : Sized rw0 0 0 0 := ⟨fun l hl => by simp [rw0] at hl, Nat.le_refl _, Nat.le_refl _, Nat.le_refl _, fun l hl => by simp [rw0] at hl⟩
theorem mem_set {T : List Xt} {k : Nat} {u l : Xt} (h : l ∈ T.set k u) : l ∈ T ∨ l = u := List.mem_or_eq_of_mem_set h
theorem mem_last {T : List Xt} {f : Xt → Xt} {l : Xt} (h : l ∈ lastX T f) : l ∈ T ∨ ∃ t ∈ T, l = f t := by
  unfold lastX at h
  cases h0 : T[T.length - 1]? with
  | none =>
    rw [h0] at h
    exact .inl h
  | some t =>
    rw [h0] at h
    rcases mem_set h with h | h
    · exact .inl h
    · exact .inr ⟨t, List.mem_of_getElem? h0, h⟩
theorem ba_size (l : List UInt8) : (ByteArray.mk l.toArray).size = l.length := by
  show l.toArray.size = _
  simp
theorem Sized.set {S : Rw} {B N K : Nat} (h : Sized S B N K) : Sized (setL S) B N K := by
  unfold setL
  split
  · exact h
  · refine ⟨fun l hl => ?_, Nat.zero_le _, by simp only; rw [lastX_len]; exact h.toks, h.dgs, fun l hl => ?_⟩
    · rcases mem_last hl with hl | ⟨t, _, rfl⟩
      · exact h.lens l hl
      · simp only
        rw [ba_size]
        exact h.text
    · rcases mem_last hl with hl | ⟨t, ht, rfl⟩
      · exact h.sits l hl
      · exact h.sits t ht
theorem Sized.push {S : Rw} {B N K : Nat} (h : Sized S B N K) (o : Int) {t : Xt} (ht : t.x.size ≤ B) (hs : t.ss.length ≤ 500000) : Sized (pushL o S t) B (N + 1) K := by
  have hS := h.set
  unfold pushL
  refine ⟨fun l hl => ?_, hS.text, ?_, hS.dgs, fun l hl => ?_⟩
  · simp only [List.mem_append, List.mem_singleton] at hl
    rcases hl with hl | rfl
    · exact hS.lens l hl
    · exact ht
  · simp only [List.length_append, List.length_cons, List.length_nil]
    have := hS.toks
    omega
  · simp only [List.mem_append, List.mem_singleton] at hl
    rcases hl with hl | rfl
    · exact hS.sits l hl
    · exact hs
theorem Sized.add {B K : Nat} (o : Int) : ∀ (T : List Xt) {S : Rw} {N : Nat}, Sized S B N K → (∀ t ∈ T, t.x.size ≤ B ∧ t.ss.length ≤ 500000) → Sized (addL o T S) B (N + T.length) K
  | [], S, N, h, _ => h
  | t :: T, S, N, h, hT => by
    have h1 := h.push o (hT t List.mem_cons_self).1 (hT t List.mem_cons_self).2
    have h2 := Sized.add o T h1 fun u hu => hT u (List.mem_cons_of_mem _ hu)
    exact h2.mono (Nat.le_refl _) (by simp only [List.length_cons]; omega) (Nat.le_refl _)
theorem Sized.grow {S : Rw} {B N K : Nat} (h : Sized S B N K) (t : Xt) : Sized (growR S t).2 (B + t.x.size) N K := by
  have hw := (h.mono (Nat.le_add_right B t.x.size) (Nat.le_refl N) (Nat.le_refl K))
  have htl : t.x.data.toList.length = t.x.size := len_byte t.x
  unfold growR
  cases h0 : S.T[S.T.length - 1]? with
  | none => exact hw.set
  | some l =>
    simp only
    have hll := h.lens l (List.mem_of_getElem? h0)
    have hls := h.sits l (List.mem_of_getElem? h0)
    split
    · refine ⟨hw.lens, ?_, hw.toks, hw.dgs, hw.sits⟩
      simp only [List.length_append]
      have := h.text
      omega
    · cases hj : joinL (if S.x = [] then l else { l with x := ⟨S.x.toArray⟩ }) t with
      | none => exact hw.set
      | some u =>
        have hu := join_size hj
        have hus := join_ss hj
        have hux : u.x.size ≤ B + t.x.size := by
          rw [hu]
          split
          · omega
          · simp only
            rw [ba_size]
            have := h.text
            omega
        have huss : u.ss.length ≤ 500000 := by
          rw [hus]
          split <;> exact hls
        have hS := hw.set
        refine ⟨fun v hv => ?_, ?_, ?_, hS.dgs, fun v hv => ?_⟩
        · rcases mem_last hv with hv | ⟨_, _, rfl⟩
          · exact hS.lens v hv
          · exact hux
        · simp only
          rw [len_byte]
          exact hux
        · simp only
          rw [lastX_len]
          exact hS.toks
        · rcases mem_last hv with hv | ⟨_, _, rfl⟩
          · exact hS.sits v hv
          · exact huss
/-- All bytes of a part. -/
def sumX (T : List Xt) : Nat := (T.map fun t => t.x.size).sum
theorem sumX_mem {T : List Xt} {t : Xt} (h : t ∈ T) : t.x.size ≤ sumX T := by
  unfold sumX
  induction T with
  | nil => cases h
  | cons u T ih =>
    rw [List.map_cons, List.sum_cons]
    rcases List.mem_cons.1 h with rfl | h
    · omega
    · have := ih h
      omega
theorem Sized.flags {S : Rw} {B N K : Nat} (h : Sized S B N K) (D : List Ill) (hD : D.length ≤ K) (a : Nat) (p : Bool) (g : ByteArray) (f t : Int) : Sized { S with D := D, a := a, p := p, g := g, f := f, t := t } B N K := ⟨h.lens, h.text, h.toks, hD, h.sits⟩
theorem Sized.put {S : Rw} {B N K : Nat} (h : Sized S B N K) (q : Pt) (hs : ∀ t ∈ q.T, t.ss.length ≤ 500000) : Sized (putL S q) (B + sumX q.T) (N + q.T.length) (K + 1) := by
  have hw := (h.mono (Nat.le_add_right B (sumX q.T)) (Nat.le_refl N) (Nat.le_succ K))
  have hT : ∀ t ∈ q.T, t.x.size ≤ B + sumX q.T ∧ t.ss.length ≤ 500000 := fun t ht => ⟨by have := sumX_mem ht; omega, hs t ht⟩
  unfold putL
  split
  · exact (hw.flags S.D hw.dgs _ _ _ _ _).mono (Nat.le_refl _) (Nat.le_add_right _ _) (Nat.le_refl _)
  · split
    · exact Sized.add q.o q.T (hw.flags S.D hw.dgs _ _ _ _ _) hT
    · cases hq : q.T with
      | nil => 
        rw [hq] at hw
        exact hw.flags S.D hw.dgs _ _ _ _ _
      | cons t s =>
        rw [hq] at hT hw
        simp only
        have hst : sumX (t :: s) = t.x.size + sumX s := rfl
        have hg := (h.grow t).mono (B' := B + sumX (t :: s)) (N' := N) (K' := K + 1) (by rw [hst]; omega) (Nat.le_refl _) (Nat.le_succ _)
        split
        · split
          · exact (Sized.add q.o s (hg.flags _ hg.dgs _ _ _ _ _) fun u hu => hT u (List.mem_cons_of_mem _ hu)).mono (Nat.le_refl _) (by simp only [List.length_cons]; omega) (Nat.le_refl _)
          · exact Sized.add q.o (t :: s) (hg.flags _ (by simp only [List.length_append, List.length_cons, List.length_nil]; have := h.dgs; omega) _ _ _ _ _) hT
        · exact Sized.add q.o (t :: s) (hw.flags S.D hw.dgs _ _ _ _ _) hT
/-- All parts up to one. -/
def sumP (qs : List Pt) : Nat := (qs.map fun q => sumX q.T).sum
def cntP (qs : List Pt) : Nat := (qs.map fun q => q.T.length).sum
theorem sized_all (qs : List Pt) (hs : ∀ q ∈ qs, ∀ t ∈ q.T, t.ss.length ≤ 500000) : ∀ k, k ≤ qs.length → Sized ((qs.take k).foldl putL rw0) (sumP (qs.take k)) (cntP (qs.take k)) k
  | 0, _ => by
    rw [List.take_zero]
    exact sized_nil
  | k + 1, h => by
    have ih := sized_all qs hs k (by omega)
    obtain ⟨q, hq⟩ : ∃ q, qs[k]? = some q := ⟨_, List.getElem?_eq_getElem (by omega)⟩
    have e : qs.take (k + 1) = qs.take k ++ [q] := by rw [List.take_add_one, hq]; rfl
    rw [e, List.foldl_append]
    have h1 := ih.put q (hs q (List.mem_of_getElem? hq))
    refine h1.mono ?_ ?_ (Nat.le_refl _)
    · unfold sumP
      simp
    · unfold cntP
      simp
theorem sum_take {α : Type} (f : α → Nat) : ∀ (l : List α) (k : Nat), ((l.take k).map f).sum ≤ (l.map f).sum
  | [], k => by simp
  | a :: l, 0 => by simp
  | a :: l, k + 1 => by
    rw [List.take_succ_cons, List.map_cons, List.map_cons, List.sum_cons, List.sum_cons]
    have := sum_take f l k
    omega
theorem sum_take_get {α : Type} (f : α → Nat) : ∀ (l : List α) (k : Nat) (a : α), l[k]? = some a → ((l.take k).map f).sum + f a ≤ (l.map f).sum
  | [], k, a, h => by simp at h
  | b :: l, 0, a, h => by
    simp only [List.getElem?_cons_zero, Option.some.injEq] at h
    subst h
    simp
  | b :: l, k + 1, a, h => by
    rw [List.take_succ_cons, List.map_cons, List.map_cons, List.sum_cons, List.sum_cons]
    have := sum_take_get f l k a (by simpa using h)
    omega
/-- What a body's parts must be for all to fit. -/
structure PartsFit (qs : List Pt) : Prop where
  sum : sumP qs ≤ 50000
  cnt : cntP qs ≤ 400000
  few : qs.length ≤ 100000
  sits : ∀ q ∈ qs, ∀ t ∈ q.T, t.ss.length ≤ 500000
theorem PartsFit.at {qs : List Pt} (h : PartsFit qs) {k : Nat} {q : Pt} (hq : qs[k]? = some q) : PutFit ((qs.take k).foldl putL rw0) q ∧ ((qs.take k).foldl putL rw0).D.length + 1 ≤ 1000000 := by
  have hk := (List.getElem?_eq_some_iff.1 hq).1
  have hs := sized_all qs h.sits k (by omega)
  have h1 := sum_take_get (fun q : Pt => sumX q.T) qs k q hq
  have h2 := sum_take_get (fun q : Pt => q.T.length) qs k q hq
  have h3 := h.sum
  have h4 := h.cnt
  have h5 := h.few
  have h6 := hs.dgs
  have h7 := hs.toks
  have h8 := hs.text
  unfold sumP at h3 hs h8
  unfold cntP at h4 h7
  refine ⟨⟨by omega, by omega, fun l hl => by have := hs.lens l hl; omega, fun t ht => ?_⟩, by omega⟩
  have := sumX_mem ht
  omega
theorem PartsFit.fin {qs : List Pt} (h : PartsFit qs) : ((qs.foldl putL rw0).x.length ≤ 100000000 ∧ (qs.foldl putL rw0).T.length ≤ 500000) ∧ ∀ t ∈ (setL (qs.foldl putL rw0)).T, t.ss.length ≤ 500000 := by
  have hs := sized_all qs h.sits qs.length (Nat.le_refl _)
  rw [List.take_length] at hs
  have h3 := h.sum
  have h4 := h.cnt
  have h7 := hs.toks
  have h8 := hs.text
  exact ⟨⟨by omega, by omega⟩, hs.set.sits⟩

end Go.Proofs.Ytobplffailbkbaa

/-
  What a body becomes: the project's Body, walked.
-/
namespace Go.Proofs.Ytobplffailbkbaa
open Go.RowKit Go.Maps

def zRow : Obj := rowObj (.slice none 0 0) (.slice none 0 0) (.slice none 0 0) (0 : Int) false ⟨#[]⟩ 0 0 (.slice none 0 0)
/-- The row at its beginning. -/
theorem RW.start {V : World} {r : Nat} (h : V.heap[r]? = some zRow) : RW V r rw0 none 0 none 0 none 0 none 0 V :=
  ⟨row_lt h, h, ⟨rfl, rfl, rfl, Nat.le_refl _, fun _ _ _ => rfl⟩, ⟨[], rfl, (up_nil V _ 8).1, fun _ h => by cases h⟩, (up_nil V _ 1).1, (up_nil V _ 4).1, .inl ⟨rfl, rfl⟩, fun h => absurd rfl h, rfl⟩
theorem row_sit {w : World} {r : Nat} {tv fv dv : Value} {a : Int} {p : Bool} {g : ByteArray} {f t : Int} {xv : Value} (h : w.heap[r]? = some (rowObj tv fv dv a p g f t xv)) {o : Nat} {s : Xs} (hs : SitA s r o w) (htv : ∀ x, tv ≠ .string x) (hfv : ∀ x, fv ≠ .string x) (hdv : ∀ x, dv ≠ .string x) : False := by
  obtain ⟨c0, c1, -⟩ := hs
  unfold rowObj at h
  rw [Lib.cell_of_heap h] at c0 c1
  match o, c0, c1 with
  | 0, c0, _ => simp at c0; exact htv _ c0
  | 1, c0, _ => simp at c0; exact hfv _ c0
  | 2, c0, _ => simp at c0; exact hdv _ c0
  | 3, c0, _ => simp at c0
  | 4, c0, _ => simp at c0
  | 5, _, c1 => simp at c1
  | 6, c0, _ => simp at c0
  | 7, c0, _ => simp at c0
  | 8, _, c1 => simp at c1
  | n + 9, c0, _ => simp at c0
theorem row_tok {w : World} {r : Nat} {tv fv dv : Value} {a : Int} {p : Bool} {g : ByteArray} {f t : Int} {xv : Value} (h : w.heap[r]? = some (rowObj tv fv dv a p g f t xv)) {o : Nat} {u : Xt} {sv : Value} (hs : TokX u sv r o w) (htv : ∀ x, tv ≠ .int .i64 x) (hfv : ∀ x, fv ≠ .int .i64 x) (hdv : ∀ x, dv ≠ .int .i64 x) (hxv : ∀ x, xv ≠ .string x) : False := by
  obtain ⟨c0, c1, -⟩ := hs
  unfold rowObj at h
  rw [Lib.cell_of_heap h] at c0 c1
  match o, c0, c1 with
  | 0, c0, _ => simp at c0; exact htv _ c0
  | 1, c0, _ => simp at c0; exact hfv _ c0
  | 2, c0, _ => simp at c0; exact hdv _ c0
  | 3, _, c1 => simp at c1
  | 4, c0, _ => simp at c0
  | 5, c0, _ => simp at c0
  | 6, _, c1 => simp at c1
  | 7, _, c1 => simp at c1; exact hxv _ c1
  | 8, _, c1 => simp at c1
  | n + 9, c0, _ => simp at c0
/-- Tokens hang on no row's own block. -/
theorem toks_deep {w : World} {r : Nat} (h : w.heap[r]? = some zRow) {T : List Xt} {v : Value} (hT : ToksX T v w) : HeldIn (Deep w r) w (ToksX T v) := by
  obtain ⟨a, cap, rfl, h1, h2, h3⟩ := hT
  intro w' s
  refine ⟨a, cap, rfl, h1, h2, fun k t hk => ?_⟩
  obtain ⟨g, o, ha, hg, sv, ht, hs⟩ := h3 k t hk
  have hgr : g ≠ r := fun e => by
    subst e
    exact row_tok h ht (fun _ e => by cases e) (fun _ e => by cases e) (fun _ e => by cases e) (fun _ e => by cases e)
  have hb := s.2 g ⟨hg, hgr⟩ hg
  have hc : ∀ j, w'.cell? ⟨g, j, none⟩ = w.cell? ⟨g, j, none⟩ := fun j => World.cell?_of_block hb
  obtain ⟨c0, c1, c2, c3, c4, c5, c6, c7⟩ := ht
  refine ⟨g, o, ha, Nat.lt_of_lt_of_le hg s.1, sv, ⟨(hc _).trans c0, (hc _).trans c1, (hc _).trans c2, (hc _).trans c3, (hc _).trans c4, (hc _).trans c5, (hc _).trans c6, (hc _).trans c7⟩, ?_⟩
  obtain ⟨a2, cap2, rfl, g1, g2, g3⟩ := hs
  refine ⟨a2, cap2, rfl, g1, g2, fun j u hj => ?_⟩
  obtain ⟨b, p, hb2, hbl, hst⟩ := g3 j u hj
  have hbr : b ≠ r := fun e => by
    subst e
    exact row_sit h hst (fun _ e => by cases e) (fun _ e => by cases e) (fun _ e => by cases e)
  have hbb := s.2 b ⟨hbl, hbr⟩ hbl
  have hcb : ∀ j, w'.cell? ⟨b, j, none⟩ = w.cell? ⟨b, j, none⟩ := fun j => World.cell?_of_block hbb
  obtain ⟨s0, s1, s2, s3, s4⟩ := hst
  exact ⟨b, p, hb2, Nat.lt_of_lt_of_le hbl s.1, (hcb _).trans s0, (hcb _).trans s1, (hcb _).trans s2, (hcb _).trans s3, (hcb _).trans s4⟩

theorem up_one5 (w : World) (s : Xs) : Up w 48 5 (.slice (some ⟨w.heap.size, 0, none⟩) 1 1) 1 (scells [s]) (w.alloc (.cells #[.string s.m, .string s.g, .int .i64 s.f, .int .i64 s.t, .bool s.d] 48)) :=
  ⟨⟨rfl, .inr ⟨w.heap.size, 1, _, rfl, Nat.le_refl _, heap_alloc_new w _, Nat.le_refl _, by unfold maxLen; omega, rfl, rfl⟩⟩, (Below.refl _ _).alloc (Nat.le_refl _) _⟩

def siteV (s : Xs) : Value := .agg #[.string s.m, .string s.g, .int .i64 s.f, .int .i64 s.t, .bool s.d]
/-- What a body is made of, as it comes in. -/
structure BodyIn (W : World) (m : Xm) (A B : List (List Xt)) (pv bv rv fv : Value) : Prop where
  mac : MacAt m pv bv W
  raw : RowsX A rv W
  full : RowsX B fv W
  fit : Szd m
  names : ∀ s ∈ m.ps, s.size ≤ maxLen
  araw : AOk A
  afull : AOk B
/-- The body is set up. -/
theorem bd_made {W w1 : World} {m : Xm} {A B : List (List Xt)} {pv bv rv fv : Value} (h : BodyIn W m A B pv bv rv fv) {mo : Option Nat} (hmo : PlacesIs m mo w1) (h1 : Below W.heap.size W w1) (s : Xs) :
    ∃ W3, ((w1.alloc (.cells #[bv, .map mo, rv, fv, .slice (some ⟨w1.heap.size + 1, 0, none⟩) 1 1] 76)).alloc (.cells #[.string s.m, .string s.g, .int .i64 s.f, .int .i64 s.t, .bool s.d] 48)).alloc (.cells #[.slice none 0 0, .slice none 0 0, .slice none 0 0, .int .i64 0, .bool false, .string ⟨#[]⟩, .int .i64 0, .int .i64 0, .slice none 0 0] 79) = W3 ∧
    SB m A B [s] bv mo rv fv (.slice (some ⟨w1.heap.size + 1, 0, none⟩) 1 1) w1.heap.size W3 ∧ W3.heap[w1.heap.size + 1 + 1]? = some zRow ∧ Below W.heap.size W W3 ∧ W.heap.size ≤ w1.heap.size := by
  have hx := below_three w1 (.cells #[bv, .map mo, rv, fv, .slice (some ⟨w1.heap.size + 1, 0, none⟩) 1 1] 76) (.cells #[.string s.m, .string s.g, .int .i64 s.f, .int .i64 s.t, .bool s.d] 48) (.cells #[.slice none 0 0, .slice none 0 0, .slice none 0 0, .int .i64 0, .bool false, .string ⟨#[]⟩, .int .i64 0, .int .i64 0, .slice none 0 0] 79)
  have hu := up_one5 (w1.alloc (.cells #[bv, .map mo, rv, fv, .slice (some ⟨w1.heap.size + 1, 0, none⟩) 1 1] 76)) s
  rw [show (w1.alloc (.cells #[bv, .map mo, rv, fv, .slice (some ⟨w1.heap.size + 1, 0, none⟩) 1 1] 76)).heap.size = w1.heap.size + 1 from by simp] at hu
  have hW := below_up h1 hx
  have s2 : ((w1.alloc (.cells #[bv, .map mo, rv, fv, .slice (some ⟨w1.heap.size + 1, 0, none⟩) 1 1] 76)).alloc (.cells #[.string s.m, .string s.g, .int .i64 s.f, .int .i64 s.t, .bool s.d] 48)).heap.size = w1.heap.size + 1 + 1 := by simp
  have hr := heap_alloc_new ((w1.alloc (.cells #[bv, .map mo, rv, fv, .slice (some ⟨w1.heap.size + 1, 0, none⟩) 1 1] 76)).alloc (.cells #[.string s.m, .string s.g, .int .i64 s.f, .int .i64 s.t, .bool s.d] 48)) (.cells #[.slice none 0 0, .slice none 0 0, .slice none 0 0, .int .i64 0, .bool false, .string ⟨#[]⟩, .int .i64 0, .int .i64 0, .slice none 0 0] 79)
  rw [s2] at hr
  refine ⟨_, rfl, ⟨(Below.heap_alloc _ _ _ (by rw [s2]; omega)).trans (blk_new1 w1 _ _), h.mac.2.over hW, hmo.over hx, h.raw.over hW, h.full.over hW, sits_of_row (hu.alloc _).1⟩, hr, hW, h1.size⟩
/-- A part of the list. -/
theorem PR.get {W : World} {qs : List Pt} {al : Option Addr} {nl cl : Nat} {w : World} (h : PR W qs al nl cl w) {k : Nat} {q : Pt} (hq : qs[k]? = some q) : ∃ g sa sc, al = some ⟨g, 0, none⟩ ∧ KindAt w g 83 ∧ (w.cell? ⟨g, k * 6, none⟩ = some (.bool q.p) ∧ w.cell? ⟨g, k * 6 + 1, none⟩ = some (.string q.g) ∧ w.cell? ⟨g, k * 6 + 2, none⟩ = some (.int .i64 q.f) ∧ w.cell? ⟨g, k * 6 + 3, none⟩ = some (.int .i64 q.t) ∧ w.cell? ⟨g, k * 6 + 4, none⟩ = some (.slice sa q.T.length sc) ∧ w.cell? ⟨g, k * 6 + 5, none⟩ = some (.int .i64 q.o)) ∧ ToksX q.T (.slice sa q.T.length sc) w ∧ nl ≤ cl ∧ cl ≤ maxLen := by
  obtain ⟨V, hV, ho, hv⟩ := h.list
  obtain ⟨a', cap, hv', hc1, hc2, hc3⟩ := row_form ho
  simp only [Value.slice.injEq, true_and] at hv'
  obtain ⟨rfl, rfl⟩ := hv'
  have hp : ∃ tv, V[k]? = some (q, tv) := by
    rw [← hV, List.getElem?_map, Option.map_eq_some_iff] at hq
    obtain ⟨⟨q', tv⟩, hq, rfl⟩ := hq
    exact ⟨tv, hq⟩
  obtain ⟨tv, hp⟩ := hp
  have hT := (hv _ (List.mem_of_getElem? hp)).2.now
  simp only at hT
  obtain ⟨sa, sc, rfl, -⟩ := id hT
  have hg := fun j (hj : j < 6) => flat_get (f := ptCell) (n := 6) (fun _ => rfl) V k _ hp j hj
  obtain ⟨g, rfl, hlt, -⟩ := hc3 (k * 6 + 0) _ ((hg 0 (by omega)).trans rfl)
  have hcx : ∀ j u, j < 6 → (ptCell (q, .slice sa q.T.length sc))[j]? = some u → w.cell? ⟨g, k * 6 + j, none⟩ = some u := by
    intro j u hj hu
    obtain ⟨g', hga', -, e⟩ := hc3 (k * 6 + j) u ((hg j hj).trans hu)
    simp only [Option.some.injEq, Addr.mk.injEq, and_true] at hga'
    rw [hga']
    exact e
  exact ⟨g, sa, sc, rfl, (row_kind ho g rfl).2, ⟨hcx 0 _ (by omega) rfl, hcx 1 _ (by omega) rfl, hcx 2 _ (by omega) rfl, hcx 3 _ (by omega) rfl, hcx 4 _ (by omega) rfl, hcx 5 _ (by omega) rfl⟩, hT, hc1, hc2⟩
/-- Ahead of each turn. -/
def BdRel (V : World) (r : Nat) (qs : List Pt) (v : Value) (wr : World) : Prop := ∃ i : Nat, v = .int .i64 i ∧ i ≤ qs.length ∧ ∃ ta tc fa fc da dc xa xc, RW V r ((qs.take i).foldl putL rw0) ta tc fa fc da dc xa xc wr
theorem fold_next {qs : List Pt} {i : Nat} {q : Pt} (h : qs[i]? = some q) : (qs.take (i + 1)).foldl putL rw0 = putL ((qs.take i).foldl putL rw0) q := by
  rw [List.take_add_one, h, List.foldl_append]
  rfl
/-- What a body became. -/
def BodyOut (W : World) (R : List Xt × List Int × List Ill) (e : Ending) (w' : World) : Prop :=
  ∃ V a n c fa fc da dc, e = .returned (.tuple #[.slice a n c, .slice fa R.2.1.length fc, .slice da R.2.2.length dc]) ∧ n = R.1.length ∧ ToksX R.1 (.slice a n c) w' ∧ IR V R.2.1 fa fc w' ∧ DR V R.2.2 da dc w' ∧ Below W.heap.size W w'

set_option maxRecDepth 100000 in
set_option maxHeartbeats 12800000 in
theorem body_any {W : World} {m : Xm} {A B : List (List Xt)} {pv bv rv fv : Value} (h : BodyIn W m A B pv bv rv fv) (s : Xs) (hp : PartsFit (partL m A B [s])) :
    Calls Try.prog 14 #[macV m pv bv, rv, fv, siteV s, .slice none 0 0] W (BodyOut W (bodyL m A B [s])) := by
  obtain ⟨pa, pn, pc, rfl⟩ := h.mac.1.form
  obtain ⟨ba, bn, bc, rfl⟩ := h.mac.2.form
  obtain ⟨ra, rn, rc, rfl⟩ := h.raw.form
  obtain ⟨fa, fn, fc, rfl⟩ := h.full.form
  have HBO : Hid (∀ X : World, Below W.heap.size W X → Calls Try.prog 30 #[macV m (.slice pa pn pc) (.slice ba bn bc)] X (BofPost X m (.slice ba bn bc))) := Lib.hid (fun X hX => bodyof_any (h.mac.over hX) h.names)
  obtain ⟨i0, hi, hz0, hz1, hz2⟩ := info_parts Try.infoSit
  unfold BofPost at HBO
  unfold macV siteV at *
  have H := Lib.hid h
  have HP := Lib.hid hp
  have hb0 : Below W.heap.size W ((W.alloc (.cells #[.string m.n, .bool m.fn, .bool m.va, .slice pa pn pc, .slice ba bn bc, .string m.g, .int .i64 m.f, .int .i64 m.t] 45)).alloc (.cells #[.string s.m, .string s.g, .int .i64 s.f, .int .i64 s.t, .bool s.d] 48)) := ((Below.refl W.heap.size W).alloc (Nat.le_refl _) _).alloc (by simp) _
  have hsb := blk_new2 W (.cells #[.string m.n, .bool m.fn, .bool m.va, .slice pa pn pc, .slice ba bn bc, .string m.g, .int .i64 m.f, .int .i64 m.t] 45) (.cells #[.string s.m, .string s.g, .int .i64 s.f, .int .i64 s.t, .bool s.d] 48)
  have HB0 := Lib.hid hb0
  have HSB := Lib.hid hsb
  clear h hp hb0 hsb
  obtain ⟨qs, hqs⟩ : ∃ qs, partL m A B [s] = qs := ⟨_, rfl⟩
  have HPT := Lib.hid (fun (mo : Option Nat) (sv : Value) (g : Nat) (X : World) (hX : SB m A B [s] (.slice ba bn bc) mo (.slice ra rn rc) (.slice fa fn fc) sv g X) => parts_any hX H.out.fit H.out.araw H.out.afull)
  have HBM := Lib.hid (fun (mo : Option Nat) (w1 : World) (hmo : PlacesIs m mo w1) (h1 : Below W.heap.size W w1) => bd_made H.out hmo h1 s)
  unfold bodyL
  rw [hqs] at HP HPT ⊢
  unfold PartsPost at HPT
  clear hqs H
  go_enter Try.func14, Try.ntmps14
  go_wp2_with (first
    | (go_at_call 30; (with_reducible refine (HBO.out _ HB0.out).mono ?_); rintro e w1 ⟨mo, rfl, hmo, hb1⟩; (obtain ⟨W3, hW3, hsb3, hr3, hl3, hle3⟩ := HBM.out mo w1 hmo (below_up HB0.out hb1)); have hq := (hb1.block (W.heap.size + 1) (by simp)).trans HSB.out; have hlt1 := row_lt hq; have HS3 := Lib.hid hsb3; have HR3 := Lib.hid hr3; have HL3 := Lib.hid hl3; have HLE := Lib.hid hle3; (obtain ⟨s0, s1, s2, s3, s4⟩ : w1.cell? ⟨W.heap.size + 1, 0, none⟩ = some (.string s.m) ∧ w1.cell? ⟨W.heap.size + 1, 1, none⟩ = some (.string s.g) ∧ w1.cell? ⟨W.heap.size + 1, 2, none⟩ = some (.int .i64 s.f) ∧ w1.cell? ⟨W.heap.size + 1, 3, none⟩ = some (.int .i64 s.t) ∧ w1.cell? ⟨W.heap.size + 1, 4, none⟩ = some (.bool s.d) := (by refine ⟨?_, ?_, ?_, ?_, ?_⟩ <;> (rw [Lib.cell_of_heap hq]; rfl))); clear hmo hb1 hq hsb3 hr3 hl3 hle3)
    | (go_at_call 31; (with_reducible refine (HPT.out _ _ _ _ HS3.out).mono ?_); rintro e V ⟨al, nl, cl, rfl, hPR⟩; have HPR := Lib.hid hPR; have HZR := Lib.hid ((hPR.bel.block _ (row_lt HR3.out)).trans HR3.out); have HLV := Lib.hid (below_up HL3.out hPR.bel); clear hPR))
  obtain ⟨r, hr⟩ : ∃ r, w1.heap.size + 1 + 1 = r := ⟨_, rfl⟩
  rw [hr] at HZR ⊢
  have HLER : Hid (W.heap.size ≤ r) := Lib.hid (by have := HLE.out; omega)
  have hnl := HPR.out.len
  have HNL := Lib.hid hnl
  have hfew : nl ≤ 100000 := by rw [hnl]; exact HP.out.few
  have HST : Hid (BdRel V r qs (.int .i64 0) V) := Lib.hid ⟨0, rfl, Nat.zero_le _, none, 0, none, 0, none, 0, none, 0, RW.start HZR.out⟩
  clear hr s0 s1 s2 s3 s4 hlt1 hW3 HS3 HR3 HL3 HBM HPT HBO HSB HB0 hnl
  go_loopw [30] (fun i wr => BdRel V r qs i wr) (fun i _ => nl - (intOf i).toNat)
  case atStart => exact HST.out
  case round =>
    obtain ⟨i, rfl, hi, ta, tc, fa1, fc1, da, dc, xa, xc, hR⟩ := hrel
    by_cases hlt : i < nl
    · obtain ⟨q, hq⟩ : ∃ q, qs[i]? = some q := ⟨_, List.getElem?_eq_getElem (by rw [← HNL.out]; exact hlt)⟩
      obtain ⟨g, sa, sc, rfl, hkg, ⟨c0, c1, c2, c3, c4, c5⟩, hT, hc1, hc2⟩ := HPR.out.get hq
      have hgr : g ≠ r := hkg.ne (⟨_, _, HZR.out⟩ : KindAt V r 79) (by decide)
      have hgb : wr.heap[g]? = V.heap[g]? := hR.low.block g hkg.lt fun e => hgr (Option.some.inj e)
      have hcc : ∀ j, wr.cell? ⟨g, j, none⟩ = V.cell? ⟨g, j, none⟩ := fun j => World.cell?_of_block hgb
      have d0 := (hcc _).trans c0
      have d1 := (hcc _).trans c1
      have d2 := (hcc _).trans c2
      have d3 := (hcc _).trans c3
      have d4 := (hcc _).trans c4
      have d5 := (hcc _).trans c5
      have HPU : Hid (∀ X : World, Below wr.heap.size wr X → Calls Try.prog 32 #[.pointer (some ⟨r, 0, none⟩), ptV q (.slice sa q.T.length sc)] X (AddPost V r (putL ((qs.take i).foldl putL rw0) q))) := Lib.hid (fun X hX => put_any (hR.over hX) q sa sc (toks_deep HZR.out hT) (HP.out.at hq).1 (HP.out.at hq).2)
      rw [← fold_next hq] at HPU
      unfold ptV AddPost at HPU
      have hglt : g < wr.heap.size := Nat.lt_of_lt_of_le hkg.lt hR.low.size
      have HLT : Hid (i + 1 ≤ qs.length) := Lib.hid (by rw [← HNL.out]; exact hlt)
      have hiI : (i : Int) < (nl : Int) := by omega
      have hi0 : (0 : Int) ≤ (i : Int) := by omega
      obtain ⟨n, hn⟩ : ∃ n, q.T.length = n := ⟨_, rfl⟩
      rw [hn] at d4 HPU
      unfold maxLen at hc2
      clear hR hT hcc hgb c0 c1 c2 c3 c4 c5 hkg hgr hq hi hn
      go_wp2_with (go_at_call 32; (with_reducible refine (HPU.out _ ((Below.refl _ _).alloc (Nat.le_refl _) _)).mono ?_); rintro e w9 ⟨rfl, tb, tcb, fb, fcb, db, dcb, xb, xcb, hR9⟩; have HR9 := Lib.hid hR9; clear hR9)
      go_roundw
      case rel => exact ⟨i + 1, by go_num, HLT.out, _, _, _, _, _, _, _, _, HR9.out⟩
      case measure => simp [intOf]; omega
    · have hiI : ¬ (i : Int) < (nl : Int) := by omega
      have hil : qs.length ≤ i := by rw [← HNL.out]; omega
      rw [List.take_of_length_le hil] at hR
      obtain ⟨hf1, hf2⟩ := HP.out.fin
      have HED := Lib.hid (ended_any hR hf1 hf2)
      unfold EndPost at HED
      clear hR hf1 hf2 hil hi
      go_wp2_with (go_at_call 33; (with_reducible refine HED.out.mono ?_); rintro e w9 ⟨a9, n9, c9, fa9, fc9, da9, dc9, rfl, hn9, -, hT9, hI9, hD9, hg9⟩; have HF := Lib.hid (show BodyOut W (endL (qs.foldl putL rw0)) (.returned (.tuple #[.slice a9 n9 c9, .slice fa9 (setL (qs.foldl putL rw0)).F.length fc9, .slice da9 (setL (qs.foldl putL rw0)).D.length dc9])) w9 from ⟨V, a9, n9, c9, fa9, fc9, da9, dc9, rfl, hn9, hT9.now, hI9, hD9, HLV.out.grown hg9 HLV.out.size fun k hk => by cases hk; exact HLER.out⟩); clear hn9 hT9 hI9 hD9 hg9)
      exact bodyPost_ret (v := .tuple #[.slice a9 n9 c9, .slice fa9 (setL (qs.foldl putL rw0)).F.length fc9, .slice da9 (setL (qs.foldl putL rw0)).D.length dc9]) (by simp [results, Try.results14, go_sem]) rfl HF.out

end Go.Proofs.Ytobplffailbkbaa
