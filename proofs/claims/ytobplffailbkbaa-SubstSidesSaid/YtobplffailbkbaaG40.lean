/-
  Texts of the proof, put together: SuM, SuPu, SuPw.
-/
import Derived.Test.YtobplffailbkbaaG35
import Derived.Test.YtobplffailbkbaaG39
import Derived.Test.YtobplffailbkbaaG38

/-
  The last token and the next one: the project's grow, in all its ways.
-/
namespace Go.Proofs.Ytobplffailbkbaa
open Go.RowKit Go.Maps

theorem grow_any {V : World} {r : Nat} {S : Rw} {ta : Option Addr} {tc : Nat} {fa : Option Addr} {fc : Nat} {da : Option Addr} {dc : Nat} {xa : Option Addr} {xc : Nat} {w : World} (h : RW V r S ta tc fa fc da dc xa xc w) (hf : RwFit S) (t : Xt) (sa : Option Addr) (sn sc : Nat) (hne : S.T ≠ [])
    (hsz : t.x.size ≤ 50000) (hlz : (∀ l ∈ S.T, l.x.size ≤ 50000) ∧ S.x.length ≤ 50000) :
    Calls Try.prog 53 #[.pointer (some ⟨r, 0, none⟩), tokA t (.slice sa sn sc)] w (GrowPost V r w (growR S t).1 (growR S t).2) := by
  have hp := List.length_pos_iff.2 hne
  have hl : S.T[S.T.length - 1]? = some S.T[S.T.length - 1] := List.getElem?_eq_getElem (by omega)
  have hl5 := hlz.1 _ (List.getElem_mem (l := S.T) (n := S.T.length - 1) (by omega))
  by_cases hx : S.x ≠ [] ∧ growL S.T[S.T.length - 1].k (S.x.getLast?.getD 0) t.x.data.toList = true
  · exact (grow_more h hf t sa sn sc (by omega) hl hx.1 hx.2).mono fun e w' hp => grow_post (growR_more hl hx) hp
  · cases hj : joinL (if S.x = [] then S.T[S.T.length - 1] else { S.T[S.T.length - 1] with x := ⟨S.x.toArray⟩ }) t with
    | none => exact grow_none h hf t sa sn sc hl hsz ⟨hl5, hlz.2⟩ hx hj
    | some u => exact grow_some h hf t sa sn sc hl hsz ⟨hl5, hlz.2⟩ hx hj

end Go.Proofs.Ytobplffailbkbaa

/-
  The next part: the project's put, where no paste waits, or nothing stands on a side of it.
-/
namespace Go.Proofs.Ytobplffailbkbaa
open Go.RowKit Go.Maps

/-- What the row must fit for a part. -/
structure PutFit (S : Rw) (q : Pt) : Prop where
  text : S.x.length ≤ 50000
  toks : S.T.length + q.T.length ≤ 500000
  lens : ∀ l ∈ S.T, l.x.size ≤ 50000
  news : ∀ t ∈ q.T, t.x.size ≤ 50000

/-- A part's box. -/
theorem boxPt {w : World} {b : Nat} {q : Pt} {sv : Value} (h : w.heap[b]? = some (ptObj q sv)) : w.cell? ⟨b, 0, none⟩ = some (.bool q.p) ∧ w.cell? ⟨b, 1, none⟩ = some (.string q.g) ∧ w.cell? ⟨b, 2, none⟩ = some (.int .i64 q.f) ∧ w.cell? ⟨b, 3, none⟩ = some (.int .i64 q.t) ∧ w.cell? ⟨b, 4, none⟩ = some sv ∧ w.cell? ⟨b, 5, none⟩ = some (.int .i64 q.o) ∧ ∀ j, w.frozen? ⟨b, j, none⟩ = false := by
  unfold ptObj at h
  refine ⟨?_, ?_, ?_, ?_, ?_, ?_, fun _ => Lib.frozen_of_heap h _⟩ <;> (rw [Lib.cell_of_heap h]; rfl)
theorem boxPt_new (w : World) (q : Pt) (sv : Value) : (w.alloc (ptObj q sv)).heap[w.heap.size]? = some (ptObj q sv) := heap_alloc_new w _
/-- Stores into the row's own block: what pastes, and where it began. -/
theorem RW.putp {V : World} {r : Nat} {S : Rw} {ta : Option Addr} {tc : Nat} {fa : Option Addr} {fc : Nat} {da : Option Addr} {dc : Nat} {xa : Option Addr} {xc : Nat} {w : World} (h : RW V r S ta tc fa fc da dc xa xc w) (p : Bool) : RW V r { S with p := p } ta tc fa fc da dc xa xc (w.setCell ⟨r, 4, none⟩ (.bool p)) := by
  have ho := h.obj
  unfold rowObj at ho
  exact h.put (S' := { S with p := p }) 4 _ ((row_set ho 4 _).trans rfl) rfl rfl rfl (h.putx 4 _) h.ne
theorem RW.puta {V : World} {r : Nat} {S : Rw} {ta : Option Addr} {tc : Nat} {fa : Option Addr} {fc : Nat} {da : Option Addr} {dc : Nat} {xa : Option Addr} {xc : Nat} {w : World} (h : RW V r S ta tc fa fc da dc xa xc w) (a : Nat) : RW V r { S with a := a } ta tc fa fc da dc xa xc (w.setCell ⟨r, 3, none⟩ (.int .i64 (a : Int))) := by
  have ho := h.obj
  unfold rowObj at ho
  exact h.put (S' := { S with a := a }) 3 _ ((row_set ho 3 _).trans rfl) rfl rfl rfl (h.putx 3 _) h.ne
theorem RW.putg {V : World} {r : Nat} {S : Rw} {ta : Option Addr} {tc : Nat} {fa : Option Addr} {fc : Nat} {da : Option Addr} {dc : Nat} {xa : Option Addr} {xc : Nat} {w : World} (h : RW V r S ta tc fa fc da dc xa xc w) (g : ByteArray) (f t : Int) : RW V r { S with g := g, f := f, t := t } ta tc fa fc da dc xa xc (((w.setCell ⟨r, 5, none⟩ (.string g)).setCell ⟨r, 6, none⟩ (.int .i64 f)).setCell ⟨r, 7, none⟩ (.int .i64 t)) := by
  have ho := h.obj
  unfold rowObj at ho
  have h1 := h.put (S' := { S with g := g }) 5 (.string g) ((row_set ho 5 _).trans rfl) rfl rfl rfl (h.putx 5 _) h.ne
  have ho := h1.obj
  unfold rowObj at ho
  have h2 := h1.put (S' := { S with g := g, f := f }) 6 (.int .i64 f) ((row_set ho 6 _).trans rfl) rfl rfl rfl (h1.putx 6 _) h.ne
  have ho := h2.obj
  unfold rowObj at ho
  exact h2.put (S' := { S with g := g, f := f, t := t }) 7 (.int .i64 t) ((row_set ho 7 _).trans rfl) rfl rfl rfl (h2.putx 7 _) h.ne

theorem putL_paste {S : Rw} {q : Pt} (h : q.p = true) : putL S q = { S with p := true, g := q.g, f := q.f, t := q.t } := by
  unfold putL
  rw [if_pos h]
theorem putL_first {S : Rw} {q : Pt} (h : q.p = false) (hs : S.p = false) : putL S q = addL q.o q.T { S with a := S.T.length, p := false } := by
  unfold putL
  rw [if_neg (by rw [h]; simp), if_pos hs]
theorem putL_skip {S : Rw} {q : Pt} (h : q.p = false) (hs : S.p = true) (hn : ¬ (S.a < S.T.length ∧ q.T ≠ [])) : putL S q = addL q.o q.T { S with p := false } := by
  unfold putL
  rw [if_neg (by rw [h]; simp), if_neg (by rw [hs]; simp)]
  cases hq : q.T with
  | nil => rfl
  | cons t s =>
    simp only
    rw [if_neg fun e => hn ⟨e, by rw [hq]; simp⟩]

set_option maxRecDepth 100000 in
set_option maxHeartbeats 6400000 in
theorem put_paste {V : World} {r : Nat} {S : Rw} {ta : Option Addr} {tc : Nat} {fa : Option Addr} {fc : Nat} {da : Option Addr} {dc : Nat} {xa : Option Addr} {xc : Nat} {w : World} (h : RW V r S ta tc fa fc da dc xa xc w) (q : Pt) (sa : Option Addr) (n sc : Nat) (hq : q.p = true) :
    Calls Try.prog 32 #[.pointer (some ⟨r, 0, none⟩), ptV q (.slice sa n sc)] w (AddPost V r (putL S q)) := by
  have hbox := boxPt_new w q (.slice sa n sc)
  have hR := h.over ((Below.refl w.heap.size w).alloc (Nat.le_refl _) (ptObj q (.slice sa n sc)))
  have hbr : r ≠ w.heap.size := by
    have := row_lt h.obj
    omega
  unfold ptV
  unfold ptObj at hbox hR
  rw [hq] at hbox hR ⊢
  obtain ⟨b0, hb0⟩ : ∃ b0, w.heap.size = b0 := ⟨_, rfl⟩
  rw [hb0] at hbox hbr
  obtain ⟨k0, k1, k2, k3, k4, k5, kf⟩ := boxPt (q := ⟨true, q.g, q.f, q.t, q.T, q.o⟩) hbox
  have HR := Lib.hid hR
  obtain ⟨-, -, -, -, c4, c5, c6, c7, -, cf⟩ := HR.out.cells
  have HP := Lib.hid (putL_paste (S := S) hq)
  have hrb := Ne.symm hbr
  clear h hq hbox hR
  go_enter Try.func32, Try.ntmps32
  go_wp2
  go_region
  go_wp2
  refine bodyPost_ret (v := .tuple #[]) (by simp [results, Try.results32, go_sem]) rfl ⟨rfl, ta, tc, fa, fc, da, dc, xa, xc, ?_⟩
  rw [HP.out]
  exact ((HR.out.putp true).putg q.g q.f q.t).over (Below.refl _ _).drew

set_option maxRecDepth 100000 in
set_option maxHeartbeats 6400000 in
theorem put_first {V : World} {r : Nat} {S : Rw} {ta : Option Addr} {tc : Nat} {fa : Option Addr} {fc : Nat} {da : Option Addr} {dc : Nat} {xa : Option Addr} {xc : Nat} {w : World} (h : RW V r S ta tc fa fc da dc xa xc w) (q : Pt) (sa : Option Addr) (sc : Nat) (hT : HeldIn (Deep V r) V (ToksX q.T (.slice sa q.T.length sc))) (hfit : PutFit S q) (hq : q.p = false) (hs : S.p = false) :
    Calls Try.prog 32 #[.pointer (some ⟨r, 0, none⟩), ptV q (.slice sa q.T.length sc)] w (AddPost V r (putL S q)) := by
  have hbox := boxPt_new w q (.slice sa q.T.length sc)
  have hR := h.over ((Below.refl w.heap.size w).alloc (Nat.le_refl _) (ptObj q (.slice sa q.T.length sc)))
  have hbr : r ≠ w.heap.size := by
    have := row_lt h.obj
    omega
  have HAD := Lib.hid (fun (X : World) (hX : RW V r { S with a := S.T.length, p := false } ta tc fa fc da dc xa xc X) => add_any hX q sa sc hT ⟨Nat.le_trans hfit.text (by omega), hfit.toks⟩)
  rw [← putL_first hq hs] at HAD
  unfold ptV at HAD ⊢
  unfold ptObj at hbox hR
  rw [hq] at hbox hR HAD ⊢
  obtain ⟨b0, hb0⟩ : ∃ b0, w.heap.size = b0 := ⟨_, rfl⟩
  rw [hb0] at hbox hbr
  obtain ⟨k0, k1, k2, k3, k4, k5, kf⟩ := boxPt (q := ⟨false, q.g, q.f, q.t, q.T, q.o⟩) hbox
  have HR := Lib.hid hR
  obtain ⟨c0, -, -, c3, c4, -, -, -, -, cf⟩ := HR.out.cells
  rw [hs] at c4
  have hrb := Ne.symm hbr
  have HR3 := Lib.hid ((HR.out.puta S.T.length).putp false)
  have HA := Lib.hid (HAD.out _ HR3.out)
  have hfk := hfit.toks
  clear h hq hbox hR hT hfit HAD
  go_enter Try.func32, Try.ntmps32
  go_wp2_with (go_at_call 54; (with_reducible refine HA.out.mono ?_); rintro e w9 ⟨rfl, hpost⟩; have HPO := Lib.hid hpost; clear hpost)
  go_end0
  exact ⟨rfl, HPO.out⟩

set_option maxRecDepth 100000 in
set_option maxHeartbeats 6400000 in
theorem put_skip {V : World} {r : Nat} {S : Rw} {ta : Option Addr} {tc : Nat} {fa : Option Addr} {fc : Nat} {da : Option Addr} {dc : Nat} {xa : Option Addr} {xc : Nat} {w : World} (h : RW V r S ta tc fa fc da dc xa xc w) (q : Pt) (sa : Option Addr) (sc : Nat) (hT : HeldIn (Deep V r) V (ToksX q.T (.slice sa q.T.length sc))) (hfit : PutFit S q) (hq : q.p = false) (hs : S.p = true) (hno : ¬ (S.a < S.T.length ∧ q.T ≠ [])) :
    Calls Try.prog 32 #[.pointer (some ⟨r, 0, none⟩), ptV q (.slice sa q.T.length sc)] w (AddPost V r (putL S q)) := by
  have hbox := boxPt_new w q (.slice sa q.T.length sc)
  have hR := h.over ((Below.refl w.heap.size w).alloc (Nat.le_refl _) (ptObj q (.slice sa q.T.length sc)))
  have hbr : r ≠ w.heap.size := by
    have := row_lt h.obj
    omega
  have HAD := Lib.hid (fun (X : World) (hX : RW V r { S with p := false } ta tc fa fc da dc xa xc X) => add_any hX q sa sc hT ⟨Nat.le_trans hfit.text (by omega), hfit.toks⟩)
  rw [← putL_skip hq hs hno] at HAD
  unfold ptV at HAD ⊢
  unfold ptObj at hbox hR
  rw [hq] at hbox hR HAD ⊢
  obtain ⟨b0, hb0⟩ : ∃ b0, w.heap.size = b0 := ⟨_, rfl⟩
  rw [hb0] at hbox hbr
  have hA := fun (k : Nat) => HAD.out _ ((hR.over (Below.of_drews _ k)).putp false)
  have hfk := hfit.toks
  have hn0 : S.a < S.T.length → q.T.length = 0 := fun e => by
    rw [List.length_eq_zero_iff]
    exact Classical.byContradiction fun e2 => hno ⟨e, e2⟩
  obtain ⟨n, hn⟩ : ∃ n, q.T.length = n := ⟨_, rfl⟩
  rw [hn] at hn0 hA hR hfk hbox ⊢
  have HA := Lib.hid hA
  obtain ⟨k0, k1, k2, k3, k4, k5, kf⟩ := boxPt (q := ⟨false, q.g, q.f, q.t, q.T, q.o⟩) hbox
  obtain ⟨c0, -, -, c3, c4, -, -, -, -, cf⟩ := hR.cells
  rw [hs] at c4
  have hrb := Ne.symm hbr
  clear h hq hbox hR hT hfit HAD hno hA
  by_cases ha : S.a < S.T.length
  · have haI : (S.a : Int) < (S.T.length : Int) := by omega
    obtain rfl := hn0 ha
    clear hn
    go_enter Try.func32, Try.ntmps32
    go_wp2
    go_quiet (fail)
    go_wp2_with (go_at_call 54; (with_reducible refine (HA.out _).mono ?_); rintro e w9 ⟨rfl, hpost⟩; have HPO := Lib.hid hpost; clear hpost)
    go_end0
    exact ⟨rfl, HPO.out⟩
  · have haI : ¬ (S.a : Int) < (S.T.length : Int) := by omega
    clear hn hn0
    go_enter Try.func32, Try.ntmps32
    go_wp2
    go_quiet (fail)
    go_wp2_with (go_at_call 54; (with_reducible refine (HA.out _).mono ?_); rintro e w9 ⟨rfl, hpost⟩; have HPO := Lib.hid hpost; clear hpost)
    go_end0
    exact ⟨rfl, HPO.out⟩

end Go.Proofs.Ytobplffailbkbaa

/-
  The next part behind a paste, where something stands on both sides of it: the project's put, what both ways need.
-/
namespace Go.Proofs.Ytobplffailbkbaa
open Go.RowKit Go.Maps

theorem ToksX.tail {t : Xt} {T : List Xt} {g o n c : Nat} {w : World} (h : ToksX (t :: T) (.slice (some ⟨g, o, none⟩) n c) w) : ToksX T (.slice (some ⟨g, o + 8, none⟩) T.length (c - 1)) w := by
  obtain ⟨a', c', hv, h1, h2, h3⟩ := h
  simp only [Value.slice.injEq] at hv
  obtain ⟨rfl, rfl, rfl⟩ := hv
  rw [List.length_cons] at h1
  refine ⟨_, _, rfl, by omega, by omega, fun k u hk => ?_⟩
  obtain ⟨g', o', he, hg, sv, ht, hs⟩ := h3 (k + 1) u (by simpa using hk)
  simp only [Option.some.injEq, Addr.mk.injEq, and_true] at he
  obtain ⟨rfl, rfl⟩ := he
  refine ⟨g, o + 8, rfl, hg, sv, ?_, hs⟩
  rw [show o + 8 + k * 8 = o + (k + 1) * 8 from by omega]
  exact ht
/-- The row, while a part's box is written. -/
theorem RW.box {V : World} {r : Nat} {S : Rw} {ta : Option Addr} {tc : Nat} {fa : Option Addr} {fc : Nat} {da : Option Addr} {dc : Nat} {xa : Option Addr} {xc : Nat} {w : World} (h : RW V r S ta tc fa fc da dc xa xc w) {b : Nat} (hb : V.heap.size ≤ b) (hk : KindAt w b 83) (j : Nat) (v : Value) : RW V r S ta tc fa fc da dc xa xc (w.setCell ⟨b, j, none⟩ v) := by
  have hg := grown_setS w b j v
  have hne : ∀ {k : Nat} {e : TypeId}, KindAt w k e → e ≠ 83 → (w.setCell ⟨b, j, none⟩ v).heap[k]? = w.heap[k]? := fun hk' he => heap_setCell_other _ _ _ _ (hk'.ne hk he)
  have hst : StillB (Deep V r) w (w.setCell ⟨b, j, none⟩ v) := StillB.of_grown hg fun k hd e => by
    have := Option.some.inj e
    have := hd.1
    omega
  exact ⟨h.lt, (hne (⟨_, _, h.obj⟩ : KindAt w r 79) (by decide)).trans h.obj, grown_low h.low hg fun k hk' => by cases hk'; exact hb, h.toks.keep (fun k e => hne (h.toks.kind k e).2 (by decide)) hst, h.frm.keep fun k e => hne (row_kind h.frm k e).2 (by decide), h.dgs.keep fun k e => hne (row_kind h.dgs k e).2 (by decide), h.txt.keep fun k e => hne (h.txt.home k e).2 (by decide), h.ne, h.same⟩
theorem setL_keep (S : Rw) : (setL S).D = S.D ∧ (setL S).g = S.g ∧ (setL S).f = S.f ∧ (setL S).t = S.t ∧ (setL S).p = S.p ∧ (setL S).a = S.a := by
  unfold setL
  split <;> exact ⟨rfl, rfl, rfl, rfl, rfl, rfl⟩
theorem grow_keep (S : Rw) (t : Xt) (hx : S.x.length ≤ 50000) (hl : ∀ l ∈ S.T, l.x.size ≤ 50000) (ht : t.x.size ≤ 50000) : ((growR S t).2.T.length = S.T.length ∧ (growR S t).2.x.length ≤ 100000) ∧ (growR S t).2.D = S.D ∧ (growR S t).2.g = S.g ∧ (growR S t).2.f = S.f ∧ (growR S t).2.t = S.t := by
  obtain ⟨e1, -, -, e4⟩ := setL_T S
  obtain ⟨k1, k2, k3, k4, -, -⟩ := setL_keep S
  have htl : t.x.data.toList.length = t.x.size := len_byte t.x
  unfold growR
  cases h0 : S.T[S.T.length - 1]? with
  | none => exact ⟨⟨e1, by rw [e4]; simp⟩, k1, k2, k3, k4⟩
  | some l =>
    simp only
    have hll := hl l (List.mem_of_getElem? h0)
    split
    · refine ⟨⟨rfl, ?_⟩, rfl, rfl, rfl, rfl⟩
      simp only [List.length_append]
      omega
    · cases hj : joinL (if S.x = [] then l else { l with x := ⟨S.x.toArray⟩ }) t with
      | none => exact ⟨⟨e1, by simp only; rw [e4]; simp⟩, k1, k2, k3, k4⟩
      | some u =>
        have hu := join_size hj
        refine ⟨⟨by simp only; rw [lastX_len, e1], ?_⟩, k1, k2, k3, k4⟩
        simp only
        rw [len_byte, hu]
        split
        · omega
        · have : (ByteArray.mk S.x.toArray).size = S.x.length := by
            show S.x.toArray.size = _
            simp
          simp only
          omega
theorem putL_grow {S : Rw} {q : Pt} {t : Xt} {s : List Xt} (h : q.p = false) (hs : S.p = true) (ha : S.a < S.T.length) (hT : q.T = t :: s) {S' : Rw} (hg : growR S t = (true, S')) : putL S q = addL q.o s { S' with p := false } := by
  unfold putL
  rw [if_neg (by rw [h]; simp), if_neg (by rw [hs]; simp)]
  simp only [hT]
  rw [if_pos ha, hg]
  rfl
theorem putL_stay {S : Rw} {q : Pt} {t : Xt} {s : List Xt} (h : q.p = false) (hs : S.p = true) (ha : S.a < S.T.length) (hT : q.T = t :: s) {S' : Rw} (hg : growR S t = (false, S')) : putL S q = addL q.o q.T { S' with D := S.D ++ [⟨10, S.g, S.f, S.t⟩], p := false } := by
  unfold putL
  rw [if_neg (by rw [h]; simp), if_neg (by rw [hs]; simp)]
  simp only [hT]
  rw [if_pos ha, hg]
  rfl

set_option maxRecDepth 100000 in
set_option maxHeartbeats 6400000 in
theorem put_grow {V : World} {r : Nat} {S : Rw} {ta : Option Addr} {tc : Nat} {fa : Option Addr} {fc : Nat} {da : Option Addr} {dc : Nat} {xa : Option Addr} {xc : Nat} {w : World} (h : RW V r S ta tc fa fc da dc xa xc w) (q : Pt) (sa : Option Addr) (sc : Nat) (hT : HeldIn (Deep V r) V (ToksX q.T (.slice sa q.T.length sc))) (hfit : PutFit S q) (hq : q.p = false) (hs : S.p = true) (ha : S.a < S.T.length) {t : Xt} {s : List Xt} (hqt : q.T = t :: s) {S' : Rw} (hgr : growR S t = (true, S')) :
    Calls Try.prog 32 #[.pointer (some ⟨r, 0, none⟩), ptV q (.slice sa q.T.length sc)] w (AddPost V r (putL S q)) := by
  have htx := hfit.news t (by rw [hqt]; exact List.mem_cons_self)
  obtain ⟨⟨n1, n2⟩, -⟩ := grow_keep S t hfit.text hfit.lens htx
  rw [hgr] at n1 n2
  simp only at n1 n2
  have hfk := hfit.toks
  rw [hqt, List.length_cons] at hfk
  have hT0 := hT
  have hqp := hq
  rw [hqt] at hT0
  obtain ⟨g, o, sv, rfl, hg, hgr2, htk, hsv⟩ := held_tok (k := 0) hT0 rfl
  have hbox := boxPt_new w q (.slice (some ⟨g, o, none⟩) q.T.length sc)
  have hb1 := (Below.refl w.heap.size w).alloc (Nat.le_refl _) (ptObj q (.slice (some ⟨g, o, none⟩) q.T.length sc))
  have hR := h.over hb1
  have hVb := h.low.size
  have hbr : r ≠ w.heap.size := by
    have := row_lt h.obj
    omega
  have hAD := fun (ta' : Option Addr) (tc' : Nat) (fa' : Option Addr) (fc' : Nat) (da' : Option Addr) (dc' : Nat) (xa' : Option Addr) (xc' : Nat) (X : World) (hX : RW V r { S' with p := false } ta' tc' fa' fc' da' dc' xa' xc' X) => add_any hX { q with T := s } (some ⟨g, o + 8, none⟩) (sc - 1) (hT0.imp fun _ h => h.tail) ⟨by show S'.x.length ≤ _; omega, by show S'.T.length + s.length ≤ _; rw [n1]; omega⟩
  rw [show addL ({ q with T := s } : Pt).o ({ q with T := s } : Pt).T ({ S' with p := false } : Rw) = putL S q from (putL_grow hq hs ha hqt hgr).symm] at hAD
  have hne : S.T ≠ [] := fun e => by
    rw [e] at ha
    simp at ha
  have hstl := StillB.of_grown (P := Deep V r) hR.low fun g hg e => hg.2 (Option.some.inj e)
  obtain ⟨e0, e1, e2, e3, e4, e5, e6, e7⟩ := htk _ hstl
  obtain ⟨aa, ca, hsl, -⟩ := hsv _ hstl
  subst hsl
  have hGR := fun (k : Nat) => grow_any (hR.over (Below.of_drews _ k)) ⟨by omega, by have := hfit.text; omega⟩ t aa t.ss.length ca hne htx ⟨hfit.lens, hfit.text⟩
  rw [hgr] at hGR
  unfold ptV at hAD ⊢
  unfold ptObj at hbox hR hGR e0 e1 e2 e3 e4 e5 e6 e7
  rw [hq] at hbox hR hAD hGR e0 e1 e2 e3 e4 e5 e6 e7 ⊢
  obtain ⟨n, hn⟩ : ∃ n, q.T.length = n := ⟨_, rfl⟩
  have hns : n = s.length + 1 := by rw [← hn, hqt]; rfl
  rw [hn] at hbox hR hGR e0 e1 e2 e3 e4 e5 e6 e7 ⊢
  obtain ⟨b0, hb0⟩ : ∃ b0, w.heap.size = b0 := ⟨_, rfl⟩
  rw [hb0] at hbox hbr hVb
  simp only [Nat.zero_mul, Nat.add_zero] at e0 e1 e2 e3 e4 e5 e6 e7
  obtain ⟨k0, k1, k2, k3, k4, k5, kf⟩ := boxPt (q := ⟨false, q.g, q.f, q.t, q.T, q.o⟩) hbox
  obtain ⟨c0, -, -, c3, c4, -, -, -, -, cf⟩ := hR.cells
  rw [hs] at c4
  have hrb := Ne.symm hbr
  have hm1 : n - 1 = s.length := by omega
  have HAD0 : Hid (sc = 1 → ∀ (ta' : Option Addr) (tc' : Nat) (fa' : Option Addr) (fc' : Nat) (da' : Option Addr) (dc' : Nat) (xa' : Option Addr) (xc' : Nat) (X : World), RW V r { S' with p := false } ta' tc' fa' fc' da' dc' xa' xc' X → Calls Try.prog 54 #[.pointer (some ⟨r, 0, none⟩), .agg #[.bool false, .string q.g, .int .i64 q.f, .int .i64 q.t, .slice (some ⟨g, o, none⟩) (n - 1) 0, .int .i64 q.o]] X (AddPost V r (putL S q))) := Lib.hid (by
    intro h1 ta' tc' fa' fc' da' dc' xa' xc' X hX
    have hle := hT0.now.len.2.1
    have hs0 : s = [] := List.eq_nil_of_length_eq_zero (by rw [List.length_cons] at hle; omega)
    subst hs0
    have := add_any hX { q with T := ([] : List Xt) } (some ⟨g, o, none⟩) 0 (fun Y _ => ⟨_, _, rfl, Nat.le_refl _, Nat.zero_le _, fun k u h => by simp at h⟩) ⟨by show S'.x.length ≤ _; omega, by show S'.T.length + 0 ≤ _; rw [n1]; omega⟩
    rw [show addL ({ q with T := ([] : List Xt) } : Pt).o ({ q with T := ([] : List Xt) } : Pt).T ({ S' with p := false } : Rw) = putL S q from (putL_grow hqp hs ha hqt hgr).symm] at this
    unfold ptV at this
    rw [hm1]
    simp only [hqp] at this
    exact this)
  have HAD : Hid (∀ (ta' : Option Addr) (tc' : Nat) (fa' : Option Addr) (fc' : Nat) (da' : Option Addr) (dc' : Nat) (xa' : Option Addr) (xc' : Nat) (X : World), RW V r { S' with p := false } ta' tc' fa' fc' da' dc' xa' xc' X → Calls Try.prog 54 #[.pointer (some ⟨r, 0, none⟩), .agg #[.bool false, .string q.g, .int .i64 q.f, .int .i64 q.t, .slice (some ⟨g, o + 8, none⟩) (n - 1) (sc - 1), .int .i64 q.o]] X (AddPost V r (putL S q))) := Lib.hid (by rw [hm1]; exact hAD)
  have HGR := Lib.hid hGR
  have HBX := Lib.hid hbox
  have HVB := Lib.hid hVb
  have haI : (S.a : Int) < (S.T.length : Int) := by omega
  have hnI : (0 : Int) < (n : Int) := by omega
  have hsl1 : (1 : Nat) ≤ n := by omega
  clear h hq hqp hR hT hT0 hfit hAD hGR hgr hgr2 htk hsv hstl hbox hqt ha hne htx hb1 hns hn hm1
  unfold GrowPost at HGR
  go_enter Try.func32, Try.ntmps32
  go_wp2
  go_quiet (fail)
  go_wp2_with (first
    | (go_at_call 53; (with_reducible refine (HGR.out _).mono ?_); rintro e w2 ⟨rfl, ta2, tc2, fa2, fc2, da2, dc2, xa2, xc2, hR2, hfr2⟩; have HR2 := Lib.hid hR2; have HB2 := Lib.hid ((hfr2 b0 ⟨_, _, HBX.out⟩).trans HBX.out); clear hR2 hfr2 k0 k1 k2 k3 k4 k5 kf; (obtain ⟨k0, k1, k2, k3, k4, k5, kf⟩ := boxPt (q := ⟨false, q.g, q.f, q.t, q.T, q.o⟩) HB2.out); (obtain ⟨-, -, -, -, d4, -, -, -, -, df⟩ := HR2.out.cells); have HRB := Lib.hid (fun v => (HR2.out.box HVB.out (⟨_, _, HB2.out⟩ : KindAt w2 b0 83) 4 v).putp false))
    | (go_at_call 54; (with_reducible refine (HAD.out _ _ _ _ _ _ _ _ _ (HRB.out _)).mono ?_); rintro e w9 ⟨rfl, hpost⟩; have HPO := Lib.hid hpost; clear hpost)
    | (go_at_call 54; (with_reducible refine (HAD0.out (by assumption) _ _ _ _ _ _ _ _ _ (HRB.out _)).mono ?_); rintro e w9 ⟨rfl, hpost⟩; have HPO := Lib.hid hpost; clear hpost))
  all_goals
    go_end0
    exact ⟨rfl, HPO.out⟩

end Go.Proofs.Ytobplffailbkbaa
