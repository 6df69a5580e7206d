/-
  Texts of the proof, put together: RLines.
-/
import Derived.Test.YtobplffailbkbaaG19
import Derived.BigRegion
import Derived.Deep.RegionLaw
import Derived.IntWalk
import Derived.Test.YtobplffailbkbaaG07

/-
  The document's own Lines, walked.
-/
namespace Go.Proofs.Ytobplffailbkbaa
open Go.RowKit

theorem rWhite_not {c : UInt8} {b : Bool} (h : isWhi c = b) (W : World) : Calls Try.prog 39 #[.int .u8 (c.toNat : Int)] W (BoolPost b W) := rWhite_is h W

section
variable {W : World} {g : Nat} {F : ByteArray} {L : List Rn} {rv ov dv tv : Value} {to : Nat} {op : Bool} {B1 : Nat} {P : List (Value × Ln)} {a : Acc} {w : World}
theorem RB.exD {ty : TypeId} {sv : Value} (h : RB W g F L rv ov dv tv to op B1 P a w) (d : Dg) (hs : Src w sv 1 4 (dcell F d)) (hn : a.diags.length ≤ 500000) :
    ∃ v' w', (Builtin.append_ #[39, 39] ty #[dv, sv]).run Try.prog w = .ok v' w' ∧ ∃ b n cap, v' = .slice (some ⟨b, 0, none⟩) n cap ∧ n = a.diags.length + 1 ∧ RPD W g F L rv ov tv to op B1 P { a with diags := a.diags ++ [d] } b n cap w' := by
  obtain ⟨b, n, cap, w', h1, h2, h3⟩ := h.pushD (ty := ty) d hs hn
  exact ⟨_, w', h1, b, n, cap, rfl, h2, h3⟩
theorem RB.exL {ty : TypeId} {sv : Value} (h : RB W g F L rv ov dv tv to op B1 P a w) (hs : Src w sv 1 4 (lcell (tv, ⟨a.toks, a.fr, to, op⟩))) (hn : a.lines.length ≤ 500000) :
    ∃ v' w', (Builtin.append_ #[63, 63] ty #[ov, sv]).run Try.prog w = .ok v' w' ∧ ∃ b n cap, v' = .slice (some ⟨b, 0, none⟩) n cap ∧ RPL W g F L rv dv tv to op { a with toks := [], lines := a.lines ++ [⟨a.toks, a.fr, to, op⟩] } b n cap w' := by
  obtain ⟨b, n, cap, w', h1, h2⟩ := h.pushL (ty := ty) hs hn
  exact ⟨_, w', h1, b, n, cap, rfl, h2⟩
end

theorem rnT_at {L : List Rn} {k : Nat} {r : Rn} (h : L[k]? = some r) : rnT L k = r.t := by unfold rnT; rw [h]
theorem rnF_at {L : List Rn} {k : Nat} {r : Rn} (h : L[k]? = some r) : rnF L k = r.f := by unfold rnF; rw [h]

theorem heap_set_new (w : World) (p : Addr) (v : Value) (o : Obj) : ((w.setCell p v).alloc o).heap[w.heap.size]? = some o := by
  have h := heap_alloc_new (w.setCell p v) o
  rw [show (w.setCell p v).heap.size = w.heap.size from by simp [World.setCell]] at h
  exact h

theorem heap_set2_new (w : World) (p p2 : Addr) (v v2 : Value) (o : Obj) : (((w.setCell p v).setCell p2 v2).alloc o).heap[w.heap.size]? = some o := by
  have h := heap_set_new (w.setCell p v) p2 v2 o
  rw [show (w.setCell p v).heap.size = w.heap.size from by simp [World.setCell]] at h
  exact h

set_option maxRecDepth 100000 in
/-- s[i:j] of the document's characters. -/
theorem slice_rn (g n cap l h : Nat) (h0 : l < n) (h1 : l ≤ h) (h2 : h ≤ n) (h3 : n ≤ cap) {x y : Int} (hx : x = (l : Int)) (hy : y = (h : Int)) (w : World) : (Instr.slice 90 (.slice (some ⟨g, 0, none⟩) n cap) (some (.int .i64 x)) (some (.int .i64 y)) none).run Try.prog w = .ok (.slice (some ⟨g, l * 3, none⟩) (h - l) (cap - l)) w := by
  subst hx hy
  have a1 : (l : Int) ≤ (h : Int) := by omega
  have a2 : (h : Int) ≤ (cap : Int) := by omega
  have a3 : (0 : Int) ≤ (l : Int) := by omega
  have a4 : (0 : Int) ≤ (h : Int) := by omega
  have a5 : Try.prog.cellsOf 93 = 3 := by kernel_rfl
  simp [Instr.slice, run_underlying Try.underlying90, Instr.sliceBounds, run_sliceBound, Addr.add, *]
  rw [if_neg (by omega)]
  congr 1
  split
  · rename_i e
    rw [e]
  · rfl

/-- The span's box. -/
def SpanAt (gs : Nat) (F : ByteArray) (f t : Nat) (w : World) : Prop := w.heap[gs]? = some (.cells #[.string F, .int .i64 (f : Int), .int .i64 (t : Int)] 23 (0, 0))
theorem SpanAt.next {gs : Nat} {F : ByteArray} {f t : Nat} {w w' : World} (h : SpanAt gs F f t w) (b : Below w.heap.size w w') : SpanAt gs F f t w' := (b.block gs (row_lt h)).trans h
/-- What the great statement loads. -/
def TkS (g gs : Nat) (tv : Value) (F : ByteArray) (f t : Nat) (w : World) : Prop := w.cell? ⟨g, 0, none⟩ = some tv ∧ w.cell? ⟨gs, 0, none⟩ = some (.string F) ∧ w.cell? ⟨gs, 1, none⟩ = some (.int .i64 (f : Int)) ∧ w.cell? ⟨gs, 2, none⟩ = some (.int .i64 (t : Int))
theorem tkS_of {g gs : Nat} {tv : Value} {F : ByteArray} {f t : Nat} {w : World} (h0 : w.cell? ⟨g, 0, none⟩ = some tv) (h : SpanAt gs F f t w) : TkS g gs tv F f t w := ⟨h0, (Lib.cell_of_heap h 0).trans rfl, (Lib.cell_of_heap h 1).trans rfl, (Lib.cell_of_heap h 2).trans rfl⟩
theorem RB.re {W w : World} {g : Nat} {F : ByteArray} {L : List Rn} {rv ov dv tv : Value} {to : Nat} {op : Bool} {B1 : Nat} {P : List (Value × Ln)} {a a' : Acc} (hb : RB W g F L rv ov dv tv to op B1 P a w) (e1 : a'.fr = a.fr) (e2 : a'.toks = a.toks) (e3 : a'.lines = a.lines) (e4 : a'.diags = a.diags) : RB W g F L rv ov dv tv to op B1 P a' w :=
  ⟨by rw [e1]; exact hb.box, hb.hg, hb.low, hb.runes, by rw [e2]; exact hb.toks, hb.b0, hb.b1, hb.lines, by rw [e3]; exact hb.pl, hb.done, by rw [e4]; exact hb.diags⟩

theorem text_of {W w : World} {g : Nat} {F : ByteArray} {L : List Rn} {gr rcap : Nat} {ov dv tv : Value} {to : Nat} {op : Bool} {B1 : Nat} {P : List (Value × Ln)} {a : Acc} (hb : RB W g F L (.slice (some ⟨gr, 0, none⟩) L.length rcap) ov dv tv to op B1 P a w) {k q m : Nat} (hq : k + m = q + 1) (hL : q + 1 ≤ L.length) (hl : L.length ≤ 1000000) :
    Calls Try.prog 44 #[.slice (some ⟨gr, k * 3, none⟩) (q + 1 - k) (rcap - k)] w (TextPost w (((bytesOf L).drop k).take m)) := by
  have hlen : ((L.drop k).take m).length = q + 1 - k := by rw [List.length_take, List.length_drop]; omega
  have ht : bytesOf ((L.drop k).take m) = ((bytesOf L).drop k).take m := by simp [bytesOf, List.map_take, List.map_drop]
  rw [← ht]
  obtain ⟨a', c', hv, h1, h2, h3⟩ := hb.at
  simp only [Value.slice.injEq] at hv
  obtain ⟨rfl, -, rfl⟩ := hv
  refine rtext_any ⟨gr, k * 3, rcap - k, by rw [hlen], by rw [hlen]; omega, by omega, fun j r hj => ?_⟩ (by omega)
  have hj2 : L[k + j]? = some r := by
    rw [List.getElem?_take] at hj
    split at hj
    · rw [List.getElem?_drop] at hj
      exact hj
    · cases hj
  obtain ⟨g', hg', hlt, e0, -, -⟩ := h3 (k + j) r hj2
  simp only [Option.some.injEq, Addr.mk.injEq, and_true] at hg'
  subst hg'
  exact ⟨hlt, by rw [← Nat.add_mul]; exact e0⟩

/-- The box afresh. -/
theorem RPL.fresh {W : World} {g : Nat} {F : ByteArray} {L : List Rn} {rv dv tv : Value} {to : Nat} {op : Bool} {a : Acc} {b n cap : Nat} {w' : World} (h : RPL W g F L rv dv tv to op a b n cap w') (t : Nat) {x : Int} (hx : x = (t : Int)) :
    ∃ P', P'.length = n ∧ RB W g F L rv (.slice (some ⟨b, 0, none⟩) n cap) dv (.slice none 0 0) 0 false w'.heap.size P' { a with fr := t } ((((w'.setCell ⟨g, 0, none⟩ (.slice none 0 0)).setCell ⟨g, 1, none⟩ (.int .i64 x)).setCell ⟨g, 2, none⟩ (.int .i64 0)).setCell ⟨g, 3, none⟩ (.bool false)) := by
  obtain ⟨P', h1, h2, -, -, -, -⟩ := h
  exact ⟨P', h1, ((h2.setFr t hx).setTo 0 rfl).setOpen false⟩

theorem RB.start {W w : World} {F : ByteArray} {L : List Rn} {rv : Value} (h : RRow W rv L w) : RB W w.heap.size F L rv (.slice none 0 0) (.slice none 0 0) (.slice none 0 0) 0 false w.heap.size [] acc0 (w.alloc (.cells #[.slice none 0 0, .int .i64 0, .int .i64 0, .bool false] 67)) := by
  have h2 := Up.alloc h (.cells #[.slice none 0 0, .int .i64 0, .int .i64 0, .bool false] 67)
  exact ⟨heap_alloc_new _ _, h.2.size, h2.2, h2.1, World.ownsRow_nil _ _ _ _, h.2.size, (by simp), World.ownsRow_nil _ _ _ _, rfl, (by intro p hp; cases hp), World.ownsRow_nil _ _ _ _⟩

/-- What the loop holds. -/
def RLRel (W : World) (g : Nat) (F : ByteArray) (L : List Rn) (rv : Value) (sz : Nat) (R : Acc) (o d s i : Value) (w : World) : Prop :=
  ∃ (k : Nat) (a : Acc) (ob : Option Addr) (on oc : Nat) (db : Option Addr) (dn dc : Nat) (tv : Value) (B1 : Nat) (P : List (Value × Ln)),
    i = .int .i64 (k : Int) ∧ s = .bool a.sp ∧ o = .slice ob on oc ∧ on = a.lines.length ∧ d = .slice db dn dc ∧ dn = a.diags.length ∧ RMid L sz R k a ∧ RB W g F L rv o d tv 0 false B1 P a w

theorem rl_nl {W w : World} {g : Nat} {F : ByteArray} {L : List Rn} {rv : Value} {sz k t : Nat} {R : Acc} {b n cap : Nat} {db : Option Addr} {dn dc B : Nat} {P' : List (Value × Ln)} {a : Acc} {i : Int} (hm : RMid L sz R (k + 1) (endA a t false))
    (hb : RB W g F L rv (.slice (some ⟨b, 0, none⟩) n cap) (.slice db dn dc) (.slice none 0 0) 0 false B P' { a with fr := t, toks := [], lines := a.lines ++ [⟨a.toks, a.fr, t, false⟩] } w) (hP : P'.length = n) (hd : dn = a.diags.length) (hi : i = ((k + 1 : Nat) : Int)) :
    RLRel W g F L rv sz R (.slice (some ⟨b, 0, none⟩) n cap) (.slice db dn dc) (.bool false) (.int .i64 i) w := by
  subst hi
  have hl := congrArg List.length hb.pl
  rw [List.length_map, hP] at hl
  exact ⟨k + 1, endA a t false, _, n, cap, db, dn, dc, _, B, P', rfl, rfl, rfl, hl, rfl, hd, hm, ⟨hb.box, hb.hg, hb.low, hb.runes, hb.toks, hb.b0, hb.b1, hb.lines, hb.pl, hb.done, hb.diags⟩⟩

theorem RB.sp {W w : World} {g : Nat} {F : ByteArray} {L : List Rn} {rv ov dv tv : Value} {to : Nat} {op : Bool} {B1 : Nat} {P : List (Value × Ln)} {a : Acc} (b : Bool) (hb : RB W g F L rv ov dv tv to op B1 P a w) : RB W g F L rv ov dv tv to op B1 P { a with sp := b } w :=
  ⟨hb.box, hb.hg, hb.low, hb.runes, hb.toks, hb.b0, hb.b1, hb.lines, hb.pl, hb.done, hb.diags⟩
theorem rl_on {W w : World} {g : Nat} {F : ByteArray} {L : List Rn} {rv : Value} {sz j : Nat} {R : Acc} {ob db : Option Addr} {on oc dn dc B : Nat} {P : List (Value × Ln)} {a : Acc} {tv : Value} {sp : Bool} {i : Int} (hm : RMid L sz R j a)
    (hb : RB W g F L rv (.slice ob on oc) (.slice db dn dc) tv 0 false B P a w) (hn : on = a.lines.length) (hd : dn = a.diags.length) (hs : sp = a.sp) (hi : i = (j : Int)) :
    RLRel W g F L rv sz R (.slice ob on oc) (.slice db dn dc) (.bool sp) (.int .i64 i) w := by
  subst hi hs
  exact ⟨j, a, ob, on, oc, db, dn, dc, tv, B, P, rfl, rfl, rfl, hn, rfl, hd, hm, hb⟩

theorem lcells_len (P : List (Value × Ln)) : (lcells P).length = P.length * 4 := by
  induction P with
  | nil => rfl
  | cons p r ih =>
    show (lcell p ++ lcells r).length = _
    rw [List.length_append, ih]
    simp [lcell]
    omega

theorem rl_open {W w : World} {g : Nat} {F : ByteArray} {L : List Rn} {rv tv : Value} {sz : Nat} {R : Acc} {b n cap b4 n4 cap4 dn : Nat} {a : Acc} {d : Dg} (h : RPL W g F L rv (.slice (some ⟨b4, 0, none⟩) n4 cap4) tv sz true { a with diags := a.diags ++ [d], toks := [], lines := a.lines ++ [⟨a.toks, a.fr, sz, true⟩] } b n cap w) (h4 : n4 = a.diags.length + 1) (_hd : dn = a.diags.length) (hR : R = endA { a with diags := a.diags ++ [d] } sz true) :
    LinesPost W F 67 R (.returned (.tuple #[.slice (some ⟨b, 0, none⟩) n cap, .slice (some ⟨b4, 0, none⟩) n4 cap4])) w := by
  obtain ⟨P', h1, hb, -, -, hl, hd⟩ := h
  subst hR
  have hpl := congrArg List.length hb.pl
  rw [List.length_map, h1] at hpl
  exact ⟨_, _, _, _, _, _, rfl, hpl, by rw [h4]; simp [endA], hl, hd⟩

/-- The last line's end is set. -/
theorem RB.last {W w : World} {g : Nat} {F : ByteArray} {L : List Rn} {rv dv tv : Value} {to : Nat} {op : Bool} {B1 : Nat} {P : List (Value × Ln)} {a : Acc} {ob : Option Addr} {n oc : Nat} (h : RB W g F L rv (.slice ob n oc) dv tv to op B1 P a w) {A : List Ln} {x : Ln} (hA : a.lines = A ++ [x]) (sz : Nat) :
    ∃ gl, ob = some ⟨gl, 0, none⟩ ∧ (∃ u, w.cell? ⟨gl, A.length * 4 + 2, none⟩ = some u) ∧ w.frozen? ⟨gl, A.length * 4 + 2, none⟩ = false ∧
      LRow W F 67 (.slice ob n oc) (A ++ [{ x with t := sz }]) (w.setCell ⟨gl, A.length * 4 + 2, none⟩ (.int .i64 (sz : Int))) ∧ DRow W F dv a.diags (w.setCell ⟨gl, A.length * 4 + 2, none⟩ (.int .i64 (sz : Int))) := by
  have hpl := h.pl
  rw [hA] at hpl
  obtain ⟨P0, P1, rfl, h0, h1⟩ := List.map_eq_append_iff.1 hpl
  obtain ⟨⟨v, y⟩, rfl, rfl⟩ : ∃ p, P1 = [p] ∧ p.2 = x := by
    cases P1 with
    | nil => simp at h1
    | cons p r =>
      simp only [List.map_cons, List.cons.injEq, List.map_eq_nil_iff] at h1
      exact ⟨p, by rw [h1.2], h1.1⟩
  have hP0 : P0.length = A.length := by rw [← h0, List.length_map]
  have hl := h.lines
  obtain ⟨-, h2 | ⟨gl, cap, cur, hv, hge, hh, -⟩⟩ := h.lines
  · have := h2.2
    simp at this
  simp only [Value.slice.injEq] at hv
  obtain ⟨rfl, rfl, rfl⟩ := hv
  obtain ⟨h3, h4⟩ := World.ownsRow.stored hl (A.length * 4 + 2) (.int .i64 (sz : Int))
  have hset : (lcells (P0 ++ [(v, y)])).set (A.length * 4 + 2) (.int .i64 (sz : Int)) = lcells (P0 ++ [(v, { y with t := sz })]) := by
    rw [lcells_snoc, lcells_snoc, List.set_append_right _ _ (by rw [lcells_len, hP0]; omega), lcells_len, hP0, show A.length * 4 + 2 - A.length * 4 = 2 from by omega]
    rfl
  rw [hset] at h3
  have hB := h.low.setCell (p := ⟨gl, A.length * 4 + 2, none⟩) (by show W.heap.size ≤ gl; have := h.hg; omega) (.int .i64 (sz : Int))
  refine ⟨gl, rfl, ?_, frozen_of_row w gl _ _ _ hh, ⟨P0 ++ [(v, { y with t := sz })], by rw [List.map_append, h0]; rfl, ⟨?_, hB⟩, fun p hp => ?_⟩, ⟨World.ownsRow.kept h.diags h4 (own_apart h.diags hl (by decide)), hB⟩⟩
  · obtain ⟨a', cap', hv2, -, -, hc⟩ := row_form hl
    have hg4 : (lcells (P0 ++ [(v, y)]))[A.length * 4 + 2]? = some (.int .i64 (y.t : Int)) := by
      rw [lcells_snoc, List.getElem?_append_right (by rw [lcells_len, hP0]; omega), lcells_len, hP0, show A.length * 4 + 2 - A.length * 4 = 2 from by omega]
      rfl
    obtain ⟨g', hg', -, e⟩ := hc _ _ hg4
    simp only [Value.slice.injEq] at hv2
    rw [← hv2.1] at hg'
    simp only [Option.some.injEq, Addr.mk.injEq, and_true] at hg'
    subst hg'
    exact ⟨_, e⟩
  · refine row_low ?_ (Nat.le_trans h.hg (Nat.le_succ g))
    have : (P0 ++ [(v, { y with t := sz })]).length = (P0 ++ [(v, y)]).length := by simp
    rw [this]
    exact h3
  · rcases List.mem_append.1 hp with hp | hp
    · have h5 := (h.done p (List.mem_append_left _ hp)).1
      exact ⟨World.ownsRow.kept h5 h4 (own_apart h5 hl (by decide)), hB⟩
    · simp only [List.mem_cons, List.not_mem_nil, or_false] at hp
      subst hp
      have h5 := (h.done (v, y) (by simp)).1
      exact ⟨World.ownsRow.kept h5 h4 (own_apart h5 hl (by decide)), hB⟩

theorem RB.none {W w : World} {g : Nat} {F : ByteArray} {L : List Rn} {rv ov dv tv : Value} {to : Nat} {op : Bool} {B1 : Nat} {P : List (Value × Ln)} {a : Acc} (h : RB W g F L rv ov dv tv to op B1 P a w) : LRow W F 67 ov a.lines w ∧ DRow W F dv a.diags w := by
  refine ⟨⟨P, h.pl, ⟨row_low h.lines (Nat.le_trans h.hg (Nat.le_succ g)), h.low⟩, fun p hp => ⟨(h.done p hp).1, h.low⟩⟩, h.diags, h.low⟩

theorem rl_tok {W w : World} {g : Nat} {F : ByteArray} {L : List Rn} {rv tv : Value} {sz k m kk q f t : Nat} {R : Acc} {ob db : Option Addr} {on oc dn dc B : Nat} {P : List (Value × Ln)} {a : Acc} {i : Int} (hm : RMid L sz R (k + m) (stepA L sz k a (.tk kk m)))
    (hb : RB W g F L rv (.slice ob on oc) (.slice db dn dc) tv 0 false B P { a with toks := a.toks ++ [⟨kk, ((bytesOf L).drop k).take m, a.sp, f, t⟩] } w) (hbad : badN kk ((bytesOf L).getD k 0) = false) (hf : rnF L k = f) (ht : rnT L q = t) (hq : k + m = q + 1) (hn : on = a.lines.length) (hd : dn = a.diags.length) (hi : i = ((q + 1 : Nat) : Int)) :
    RLRel W g F L rv sz R (.slice ob on oc) (.slice db dn dc) (.bool false) (.int .i64 i) w := by
  have e : stepA L sz k a (.tk kk m) = { a with sp := false, toks := a.toks ++ [⟨kk, ((bytesOf L).drop k).take m, a.sp, f, t⟩] } := by
    simp only [stepA, takeA, hbad, pushA]
    rw [show k + m - 1 = q from by omega, hf, ht]
    rfl
  rw [e] at hm
  exact rl_on hm (hb.re rfl rfl rfl rfl) hn hd rfl (by rw [hi, hq])
theorem rl_tokb {W w : World} {g : Nat} {F : ByteArray} {L : List Rn} {rv tv : Value} {sz k m kk q f t : Nat} {R : Acc} {ob : Option Addr} {on oc b8 n8 cap8 B : Nat} {P : List (Value × Ln)} {a : Acc} {i : Int} (hm : RMid L sz R (k + m) (stepA L sz k a (.tk kk m)))
    (hb : RPD W g F L rv (.slice ob on oc) tv 0 false B P { a with toks := a.toks ++ [⟨kk, ((bytesOf L).drop k).take m, a.sp, f, t⟩], diags := a.diags ++ [⟨2, f, t⟩] } b8 n8 cap8 w) (hbad : badN kk ((bytesOf L).getD k 0) = true) (hf : rnF L k = f) (ht : rnT L q = t) (hq : k + m = q + 1) (hn : on = a.lines.length) (hd : n8 = a.diags.length + 1) (hi : i = ((q + 1 : Nat) : Int)) :
    RLRel W g F L rv sz R (.slice ob on oc) (.slice (some ⟨b8, 0, none⟩) n8 cap8) (.bool false) (.int .i64 i) w := by
  have e : stepA L sz k a (.tk kk m) = { a with sp := false, toks := a.toks ++ [⟨kk, ((bytesOf L).drop k).take m, a.sp, f, t⟩], diags := a.diags ++ [⟨2, f, t⟩] } := by
    simp only [stepA, takeA, hbad, pushA, tellA]
    rw [show k + m - 1 = q from by omega, hf, ht]
    rfl
  rw [e] at hm
  exact rl_on hm (RB.re hb rfl rfl rfl rfl) hn (by rw [hd]; simp) rfl (by rw [hi, hq])

set_option maxRecDepth 100000 in
set_option maxHeartbeats 6400000 in
theorem rlines_any (F s : ByteArray) (W : World) (hs : s.size ≤ 100000) : Calls Try.prog 24 #[.string F, .string s] W (LinesPost W F 67 (linesA (charsL s.data.toList) s.size)) := by
  obtain ⟨n, hn, hn2⟩ := charsL_few s.data.toList
  rw [len_byte] at hn2
  have hNl := charsL_nl s.data.toList
  have HCH := Lib.hid (rChars_any s W hs)
  obtain ⟨L, hL⟩ : ∃ L, charsL s.data.toList = L := ⟨_, rfl⟩
  rw [hL] at HCH hn hNl ⊢
  obtain ⟨sz, hsz⟩ : ∃ sz, s.size = sz := ⟨_, rfl⟩
  obtain ⟨R, hR⟩ : ∃ R, linesA L sz = R := ⟨_, rfl⟩
  have HM0 : Hid (RMid L sz R 0 acc0) := Lib.hid (hR ▸ rmid_zero L sz)
  have HNL := Lib.hid hNl
  rw [hsz, hR]
  clear hL hNl hR
  go_enter Try.func24, Try.ntmps24
  go_wp2_with (go_at_call 43; (with_reducible refine HCH.out.mono ?_); rintro e w1 ⟨ra, n1, rcap, hn1, rfl, u1⟩; have U1 := Lib.hid u1; clear u1)
  have S0 : RLRel W w1.heap.size F L (.slice ra L.length rcap) sz R (.slice none 0 0) (.slice none 0 0) (.bool false) (.int .i64 0) (w1.alloc (.cells #[.slice none 0 0, .int .i64 0, .int .i64 0, .bool false] 67)) :=
    ⟨0, acc0, none, 0, 0, none, 0, 0, .slice none 0 0, w1.heap.size, [], rfl, rfl, rfl, rfl, rfl, rfl, HM0.out, RB.start (by rw [← hn1]; exact U1.out)⟩
  have HS0 := Lib.hid S0
  obtain ⟨g, hg⟩ : ∃ g, w1.heap.size = g := ⟨_, rfl⟩
  rw [hg] at HS0 ⊢
  clear S0 hg
  go_loopw [7, 8, 10, 11] (fun o d s i w' => RLRel W g F L (.slice ra L.length rcap) sz R o d s i w') (fun _ _ _ i _ => L.length - (intOf i).toNat)
  case atStart => exact HS0.out
  case round =>
    obtain ⟨k, a, ob, on, oc, db, dn, dc, tv, B1, P, rfl, rfl, rfl, hon, rfl, hdn, hm, hb⟩ := hrel
    obtain ⟨tb, tcap, rfl, -⟩ := row_form hb.toks
    have HB := Lib.hid hb
    have HM := Lib.hid hm
    have hlim := hm.2.1
    have hkl := hm.1
    have hlim1 := hlim.1
    have hlim2 := hlim.2.1
    have hlim3 := hlim.2.2
    have HON := Lib.hid hon
    have HDN := Lib.hid hdn
    clear hm hlim hon hdn
    by_cases hlt : k < L.length
    · obtain ⟨r, hr⟩ : ∃ r, L[k]? = some r := ⟨_, List.getElem?_eq_getElem hlt⟩
      obtain ⟨a', c', hv, hc1, hc2, hcell⟩ := hb.at
      simp only [Value.slice.injEq] at hv
      obtain ⟨rfl, -, rfl⟩ := hv
      obtain ⟨gr, rfl, hgr, e0, e1, e2⟩ := hcell k r hr
      have k0 := hb.k0
      have k1 := hb.k1
      have k2 : wr.cell? ⟨g, 2, none⟩ = some (.int .i64 0) := hb.k2
      have k3 := hb.k3
      have z0 := hb.free 0
      have z1 := hb.free 1
      have z2 := hb.free 2
      have z3 := hb.free 3
      have hglt := hb.lt
      have hkI : (k : Int) < (L.length : Int) := by omega
      have hgb := get_bytes hr
      have hrT := rnT_at hr
      have hrF := rnF_at hr
      have hne : g ≠ wr.heap.size := by omega
      have HC := Lib.hid hcell
      have HR := Lib.hid hr
      clear hcell hr hb
      by_cases h10 : r.c = 10
      · have x1 : (((r.c.toNat : Nat) : Int) == 10) = true := by rw [h10]; rfl
        have HMN : Hid (RMid L sz R (k + 1) (endA a r.t false)) := Lib.hid (by rw [← hrT]; exact rmid_nl HM.out hlt (by rw [hgb]; exact h10))
        clear h10 hgb hrT hrF
        go_wp2_with (at_builtin; refine wpList_append_ex rfl (.tmp 36) (.tmp 38) 63 rfl _ (RB.exL (W := W) (g := g) (F := F) (L := L) (rv := .slice (some ⟨gr, 0, none⟩) L.length rcap) (dv := .slice db dn dc) (tv := .slice tb a.toks.length tcap) (to := r.t) (op := false) (B1 := B1) (P := P) (a := a) ((HB.out.setTo r.t rfl).alloc _) (src_row (heap_set_new _ _ _ _) rfl rfl) (by omega)) ?_; rintro v2 w2 ⟨b2, n2, cap2, rfl, hpl⟩; have HPL := Lib.hid hpl; obtain ⟨P2, hP2, -, hbx, hrs, -, -⟩ := hpl; obtain ⟨a2, c2, hv2, -, -, hcell2⟩ := hrs; simp only [Value.slice.injEq] at hv2; obtain ⟨rfl, -⟩ := hv2; obtain ⟨gr2, hgr2, hgrl, -, -, d2⟩ := hcell2 k r HR.out; simp only [Option.some.injEq, Addr.mk.injEq, and_true] at hgr2; obtain rfl := hgr2; have y0 := frozen_of_row w2 g 0 _ _ hbx; have y1 := frozen_of_row w2 g 1 _ _ hbx; have y2 := frozen_of_row w2 g 2 _ _ hbx; have y3 := frozen_of_row w2 g 3 _ _ hbx; have q0 := (Lib.cell_of_heap hbx 0).trans (show (boxC _ _ _ _)[0]? = some _ from rfl); have q1 := (Lib.cell_of_heap hbx 1).trans (show (boxC _ _ _ _)[1]? = some _ from rfl); have q2 := (Lib.cell_of_heap hbx 2).trans (show (boxC _ _ _ _)[2]? = some _ from rfl); have q3 := (Lib.cell_of_heap hbx 3).trans (show (boxC _ _ _ _)[3]? = some _ from rfl); clear hcell2 hbx)
        obtain ⟨P3, hP3, hb3⟩ := HPL.out.fresh r.t rfl
        have HB3 := Lib.hid hb3
        clear hb3
        go_roundw
        case rel => exact rl_nl HMN.out HB3.out hP3 HDN.out (by simp)
        case measure => simp [intOf]; omega
      · have x1 : (((r.c.toNat : Nat) : Int) == 10) = false := byte_neB (n := 10) (by omega) h10
        have hN : Nl (bytesOf L) := by
          rcases HNL.out with e | e
          · rw [e] at hlt
            simp at hlt
          · exact e
        cases hw : isWhi r.c with
        | true =>
          have HW := Lib.hid (rWhite_is hw)
          have hit : item ((bytesOf L).drop k) = .gap 1 := item_sp (by
            unfold begN
            rw [getD_drop, Nat.add_zero, hgb, if_neg h10, if_pos hw])
          have hsh := item_short hN hlt hit (by simp) (by simp)
          have HMN := Lib.hid (rmid_on HM.out hlt hit (n := 1) rfl hsh)
          clear h10 hgb hrT hrF hw hit hN
          go_wp2_with (go_at_call 39; (with_reducible refine (HW.out _).mono ?_); rintro e w' ⟨rfl, rfl⟩)
          go_roundw
          case rel => exact rl_on HMN.out (HB.out.sp true) HON.out HDN.out rfl (by simp)
          case measure => simp [intOf]; omega
        | false =>
          have HW := Lib.hid (rWhite_is hw)
          have hco := rcomment_any HB.out.at k (by omega) hlt
          have hll := bytesOf_len L
          rcases rcom_cases (bytesOf L) k (by rw [hgb]; exact h10) (by rw [hgb]; exact hw) with ⟨hrc, hit⟩ | ⟨m, hm0, hrc, hit⟩ | ⟨hrc, hit, h42⟩
          · obtain ⟨kk, m, ht⟩ : ∃ kk m, tok ((bytesOf L).drop k) = (kk, m) := ⟨_, _, rfl⟩
            rw [ht] at hit
            have hsh := item_short hN hlt hit (by simp) (by simp)
            simp only [It.len] at hsh
            have HMN := Lib.hid (rmid_on HM.out hlt hit (n := m) rfl hsh)
            rw [hrc] at hco
            have HCO : Hid (Calls Try.prog 41 #[.slice (some ⟨gr, 0, none⟩) L.length rcap, .int .i64 (k : Int)] wr fun e w' => e = .returned (.tuple #[.int .i64 (k : Int), .bool false]) ∧ wr = w') := Lib.hid hco
            obtain ⟨q, hq⟩ : ∃ q, k + m = q + 1 := ⟨k + m - 1, by omega⟩
            obtain ⟨bad, hbad⟩ : ∃ bad, badN kk ((bytesOf L).getD k 0) = bad := ⟨_, rfl⟩
            have hnx := rnext_any HB.out.at k (by omega) hlt rfl
            unfold NextPost at hnx
            rw [ht] at hnx
            simp only at hnx
            rw [hbad, hq] at hnx
            have HNX := Lib.hid hnx
            have hqL : q < L.length := by omega
            obtain ⟨r2, hr2⟩ : ∃ r2, L[q]? = some r2 := ⟨_, List.getElem?_eq_getElem hqL⟩
            have hrT2 := rnT_at hr2
            have HR2 := Lib.hid hr2
            have hkq : k ≤ q := by omega
            have HQ := Lib.hid hq
            have HBAD := Lib.hid hbad
            have HIT := Lib.hid hit
            clear h10 hgb hrT hw hit hN hrc hco hll hnx ht hq hbad hr2
            go_wp2_with (first
              | (go_at_call 39; (with_reducible refine (HW.out _).mono ?_); rintro e w' ⟨rfl, rfl⟩)
              | (go_at_call 41; (with_reducible refine HCO.out.mono ?_); rintro e w' ⟨rfl, rfl⟩)
              | (go_at_call 42; (with_reducible refine HNX.out.mono ?_); rintro e w2 ⟨rfl, hb2⟩; have H2 := Lib.hid (HB.out.next hb2); clear hb2))
            obtain ⟨a5, c5, hv5, -, -, hcell5⟩ := H2.out.at
            simp only [Value.slice.injEq] at hv5
            obtain ⟨rfl, -⟩ := hv5
            obtain ⟨g5, hg5, hgl2, -, e12, -⟩ := hcell5 k r HR.out
            simp only [Option.some.injEq, Addr.mk.injEq, and_true] at hg5
            obtain rfl := hg5
            obtain ⟨g6, hg6, -, -, -, f22⟩ := hcell5 q r2 HR2.out
            simp only [Option.some.injEq, Addr.mk.injEq, and_true] at hg6
            obtain rfl := hg6
            have hqI : (q : Int) < (L.length : Int) := by omega
            have hq0 : (0 : Int) ≤ (q : Int) := by omega
            have hqw : IntKind.i64.wrap (((q + 1 : Nat) : Int) - 1) = (q : Int) := by rw [IntWalk.i64_in _ (by omega)]; omega
            have hqt : ((q : Nat) : Int).toNat = q := rfl
            clear e0 e1 e2 k0 k1 k2 k3 z0 z1 z2 z3 hcell5
            go_wp2
            go_region
            obtain ⟨gs, hgs⟩ : ∃ gs, w2.heap.size = gs := ⟨_, rfl⟩
            obtain ⟨w3, hw3⟩ : ∃ w3, (w2.alloc (.cells #[.string F, .int .i64 (r.f : Int), .int .i64 (r2.t : Int)] 23)).drew = w3 := ⟨_, rfl⟩
            have H3 := Lib.hid (hw3 ▸ (H2.out.alloc (.cells #[.string F, .int .i64 (r.f : Int), .int .i64 (r2.t : Int)] 23)).drew)
            have HS3 : Hid (SpanAt gs F r.f r2.t w3) := Lib.hid (by rw [← hw3, ← hgs]; exact heap_drew (heap_alloc_new _ _))
            have hlt2 := H2.out.lt
            have hgg : gs ≠ g := by omega
            rw [hw3, hgs]
            clear hw3 hqw e12 f22 hgs
            have HSW := tkS_of H3.out.drew.k0 (show SpanAt gs F r.f r2.t w3.drew from HS3.out)
            have HTX : Hid (∀ X : World, RB W g F L (.slice (some ⟨gr, 0, none⟩) L.length rcap) (.slice ob on oc) (.slice db dn dc) (.slice tb a.toks.length tcap) 0 false B1 P a X → Calls Try.prog 44 #[.slice (some ⟨gr, k * 3, none⟩) (q + 1 - k) (rcap - k)] X (TextPost X (((bytesOf L).drop k).take m))) := Lib.hid (fun X hX => text_of hX HQ.out (by omega) (by omega))
            have hdl1 : a.toks.length ≤ 500000 := by omega
            have hdl3 : a.diags.length ≤ 500000 := by omega
            have hsl := slice_rn gr L.length rcap k (q + 1) hlt (by omega) (by omega) hc1 (x := (k : Int)) (y := (q : Int) + 1) rfl (by omega)
            go_wp2
            refine region_anyT (TkS g gs (.slice tb a.toks.length tcap) F r.f r2.t) 14 (by kernel_rfl) ?_
            refine anyT_take 0 [1, 12, 13, 14] (v := ?_) rfl (by kernel_rfl) (fun _ _ _ h => h) (Or.inl ⟨by rfl, ?_⟩) HSW ?_
            rotate_left
            · (intro w hSw; obtain ⟨hs0, hsa, hsb, hsc⟩ := hSw; go_simp; (try with_reducible rfl))
            (try simp only [Act.put]); (try simp only [List.setIfInBounds_toArray]); (try simp only [List.set_cons_succ]); (try simp only [List.set_cons_zero])
            refine anyT_take 1 [12, 13, 14] (v := ?_) rfl (by kernel_rfl) (fun _ _ _ h => h) (Or.inl ⟨by rfl, ?_⟩) HSW ?_
            rotate_left
            · (intro w hSw; obtain ⟨hs0, hsa, hsb, hsc⟩ := hSw; go_simp; (try with_reducible rfl))
            (try simp only [Act.put]); (try simp only [List.setIfInBounds_toArray]); (try simp only [List.set_cons_succ]); (try simp only [List.set_cons_zero])
            refine anyT_take 2 [10, 11, 12, 13, 14] (v := ?_) rfl (by kernel_rfl) (fun _ _ _ h => h) (Or.inl ⟨by rfl, ?_⟩) HSW ?_
            rotate_left
            · (intro w hSw; obtain ⟨hs0, hsa, hsb, hsc⟩ := hSw; go_simp; (try with_reducible rfl))
            (try simp only [Act.put]); (try simp only [List.setIfInBounds_toArray]); (try simp only [List.set_cons_succ]); (try simp only [List.set_cons_zero])
            refine anyT_take 3 [6, 7, 10, 11, 12, 13, 14] (v := ?_) rfl (by kernel_rfl) (fun _ _ _ h => h) (Or.inl ⟨by rfl, ?_⟩) HSW ?_
            rotate_left
            · (intro w hSw; obtain ⟨hs0, hsa, hsb, hsc⟩ := hSw; go_simp; (try with_reducible rfl))
            (try simp only [Act.put]); (try simp only [List.setIfInBounds_toArray]); (try simp only [List.set_cons_succ]); (try simp only [List.set_cons_zero])
            refine anyT_take 4 [6, 7, 10, 11, 12, 13, 14] (v := ?_) rfl (by kernel_rfl) (fun _ _ _ h => h) (Or.inl ⟨by rfl, ?_⟩) HSW ?_
            rotate_left
            · (intro w hSw; obtain ⟨hs0, hsa, hsb, hsc⟩ := hSw; go_simp; (try with_reducible rfl))
            (try simp only [Act.put]); (try simp only [List.setIfInBounds_toArray]); (try simp only [List.set_cons_succ]); (try simp only [List.set_cons_zero])
            refine anyT_take 5 [6, 7, 10, 11, 12, 13, 14] (v := ?_) rfl (by kernel_rfl) (fun _ _ _ h => h) (Or.inl ⟨by rfl, ?_⟩) HSW ?_
            rotate_left
            · (intro w hSw; obtain ⟨hs0, hsa, hsb, hsc⟩ := hSw; go_simp; (try with_reducible rfl))
            (try simp only [Act.put]); (try simp only [List.setIfInBounds_toArray]); (try simp only [List.set_cons_succ]); (try simp only [List.set_cons_zero])
            refine anyT_take 6 [7, 10, 11, 12, 13, 14] (v := ?_) rfl (by kernel_rfl) (fun _ _ _ h => h) (Or.inl ⟨by rfl, ?_⟩) HSW ?_
            rotate_left
            · (intro w hSw; obtain ⟨hs0, hsa, hsb, hsc⟩ := hSw; go_simp; (try with_reducible rfl))
            (try simp only [Act.put]); (try simp only [List.setIfInBounds_toArray]); (try simp only [List.set_cons_succ]); (try simp only [List.set_cons_zero])
            refine anyT_take 8 [10, 11, 12, 13, 14] (v := ?_) rfl (by kernel_rfl) (fun _ _ _ h => h) (Or.inl ⟨by rfl, ?_⟩) HSW ?_
            rotate_left
            · (intro w hSw; obtain ⟨hs0, hsa, hsb, hsc⟩ := hSw; go_simp; (try with_reducible rfl))
            (try simp only [Act.put]); (try simp only [List.setIfInBounds_toArray]); (try simp only [List.set_cons_succ]); (try simp only [List.set_cons_zero])
            refine anyT_take 9 [10, 11, 12, 13, 14] (v := ?_) rfl (by kernel_rfl) (fun _ _ _ h => h) (Or.inl ⟨by rfl, ?_⟩) HSW ?_
            rotate_left
            · (intro w hSw; obtain ⟨hs0, hsa, hsb, hsc⟩ := hSw; go_simp; (try with_reducible rfl))
            (try simp only [Act.put]); (try simp only [List.setIfInBounds_toArray]); (try simp only [List.set_cons_succ]); (try simp only [List.set_cons_zero])
            refine anyT_step 7 (by kernel_rfl) rfl (fun K hK => ?_)
            go_simp
            go_at_call 44
            refine (HTX.out _ (?_ : RB W g F L (.slice (some ⟨gr, 0, none⟩) L.length rcap) (.slice ob on oc) (.slice db dn dc) (.slice tb a.toks.length tcap) 0 false B1 P a _)).mono ?_
            · (repeat first | (with_reducible apply RB.drew) | (with_reducible apply RB.drewN)); (with_reducible exact H3.out)
            rintro e w4 ⟨rfl, b4⟩
            have H4 := Lib.hid (H3.out.drew.next b4)
            have HS4 : Hid (SpanAt gs F r.f r2.t w4) := Lib.hid (SpanAt.next (w := w3.drew) HS3.out b4)
            have HSW := tkS_of H4.out.k0 HS4.out
            have hlt4 := H4.out.lt
            have hne4 : g ≠ w4.heap.size := by omega
            have hgs4 : gs ≠ w4.heap.size := by have := row_lt HS4.out; omega
            clear b4
            try go_wp2_with fail
            refine hK.out _ _ (fun _ => HSW) ?_
            clear hK K
            (try simp only [Act.put]); (try simp only [List.setIfInBounds_toArray]); (try simp only [List.set_cons_succ]); (try simp only [List.set_cons_zero])
            refine anyT_take 10 [11, 12, 13, 14] (v := ?_) rfl (by kernel_rfl) (fun _ _ _ h => h) (Or.inl ⟨by rfl, ?_⟩) HSW ?_
            rotate_left
            · (intro w hSw; obtain ⟨hs0, hsa, hsb, hsc⟩ := hSw; go_simp; (try with_reducible rfl))
            (try simp only [Act.put]); (try simp only [List.setIfInBounds_toArray]); (try simp only [List.set_cons_succ]); (try simp only [List.set_cons_zero])
            refine anyT_step 11 (by kernel_rfl) rfl (fun K hK => ?_)
            go_simp
            have H5 := Lib.hid (H4.out.alloc (.cells #[.int .i64 (kk : Int), .string ⟨(((bytesOf L).drop k).take m).toArray⟩, .bool a.sp, .string F, .int .i64 (r.f : Int), .int .i64 (r2.t : Int), .bool false, .slice none 0 0] 26))
            have HS5 : Hid (SpanAt gs F r.f r2.t (w4.alloc (.cells #[.int .i64 (kk : Int), .string ⟨(((bytesOf L).drop k).take m).toArray⟩, .bool a.sp, .string F, .int .i64 (r.f : Int), .int .i64 (r2.t : Int), .bool false, .slice none 0 0] 26))) := Lib.hid (HS4.out.next ((Below.refl _ _).alloc (Nat.le_refl _) _))
            have HSW := tkS_of H5.out.k0 HS5.out
            refine hK.out _ _ (fun _ => HSW) ?_
            clear hK K
            (try simp only [Act.put]); (try simp only [List.setIfInBounds_toArray]); (try simp only [List.set_cons_succ]); (try simp only [List.set_cons_zero])
            refine anyT_step 12 (by kernel_rfl) rfl (fun K hK => ?_)
            refine step_ex rfl (.tmp 114) (.tmp 124) 28 rfl _ _ _ rfl rfl (RB.pushT (W := W) (g := g) (F := F) (L := L) (rv := .slice (some ⟨gr, 0, none⟩) L.length rcap) (ov := .slice ob on oc) (dv := .slice db dn dc) (tv := .slice tb a.toks.length tcap) (to := 0) (op := false) (B1 := B1) (P := P) (a := a) (by with_reducible exact H5.out) ⟨kk, ((bytesOf L).drop k).take m, a.sp, r.f, r2.t⟩ (src_row (heap_alloc_new _ _) rfl rfl) hdl1) ?_
            intro b6 n6 cap6 w6 hp
            have HP6 := Lib.hid hp
            have z06 := hp.1.1
            have k06 := hp.1.2
            have HS6 : Hid (SpanAt gs F r.f r2.t w6) := Lib.hid (hp.2.1 _ _ _ HS5.out (by decide))
            have HSW := tkS_of hp.1.2 HS6.out
            clear hp
            refine hK.out _ _ (fun _ => HSW) ?_
            clear hK K
            (try simp only [Act.put]); (try simp only [List.setIfInBounds_toArray]); (try simp only [List.set_cons_succ]); (try simp only [List.set_cons_zero])
            refine anyT_take 13 [14] (v := ?_) rfl (by kernel_rfl) (fun _ _ _ h => h) (Or.inl ⟨by rfl, ?_⟩) HSW ?_
            rotate_left
            · (intro w hSw; obtain ⟨hs0, hsa, hsb, hsc⟩ := hSw; go_simp; (try with_reducible rfl))
            (try simp only [Act.put]); (try simp only [List.setIfInBounds_toArray]); (try simp only [List.set_cons_succ]); (try simp only [List.set_cons_zero])
            refine anyT_step 14 (by kernel_rfl) rfl (fun K hK => ?_)
            go_simp
            refine hK.out _ _ (fun h => absurd rfl h) ?_
            clear hK K
            (try simp only [Act.put]); (try simp only [List.setIfInBounds_toArray]); (try simp only [List.set_cons_succ]); (try simp only [List.set_cons_zero])
            refine anyT_done (by kernel_rfl) ?_ _
            obtain ⟨w7, hw7⟩ : ∃ w7, w6.setCell ⟨g, 0, none⟩ (.slice (some ⟨b6, 0, none⟩) n6 cap6) = w7 := ⟨_, rfl⟩
            have H7 := Lib.hid (hw7 ▸ HP6.out.2.2)
            have HS7 : Hid (SpanAt gs F r.f r2.t w7) := Lib.hid (by
              rw [← hw7]
              exact (heap_setCell_other w6 ⟨g, 0, none⟩ gs _ hgg).trans HS6.out)
            have s0 : w7.cell? ⟨gs, 0, none⟩ = some (.string F) := (Lib.cell_of_heap HS7.out 0).trans rfl
            have s1 : w7.cell? ⟨gs, 1, none⟩ = some (.int .i64 (r.f : Int)) := (Lib.cell_of_heap HS7.out 1).trans rfl
            have s2 : w7.cell? ⟨gs, 2, none⟩ = some (.int .i64 (r2.t : Int)) := (Lib.cell_of_heap HS7.out 2).trans rfl
            rw [hw7]
            clear hw7 hsl z06 k06
            have HTF := Lib.hid hrF
            have HTT := Lib.hid hrT2
            clear hrF hrT2
            cases bad with
            | false =>
              go_wp2
              go_roundw
              case rel => exact rl_tok HMN.out H7.out HBAD.out HTF.out HTT.out HQ.out HON.out HDN.out (by simp)
              case measure => simp [intOf]; omega
            | true =>
              go_wp2_with (at_builtin; refine wpList_append_ex rfl (.tmp 128) (.tmp 131) 39 rfl _ (RB.exD (W := W) (g := g) (F := F) (L := L) (rv := .slice (some ⟨gr, 0, none⟩) L.length rcap) (ov := .slice ob on oc) (dv := .slice db dn dc) (tv := .slice (some ⟨b6, 0, none⟩) n6 cap6) (to := 0) (op := false) (B1 := B1) (P := P) (a := { a with toks := a.toks ++ [⟨kk, ((bytesOf L).drop k).take m, a.sp, r.f, r2.t⟩] }) (H7.out.alloc _) ⟨2, r.f, r2.t⟩ (src_row (heap_alloc_new _ _) rfl rfl) hdl3) ?_; rintro v8 w8 ⟨b8, n8, cap8, rfl, hn8, hp8⟩; have H8 := Lib.hid hp8; have HN8 := Lib.hid hn8; clear hp8 hn8)
              go_roundw
              case rel => exact rl_tokb HMN.out H8.out HBAD.out HTF.out HTT.out HQ.out HON.out HN8.out (by simp)
              case measure => simp [intOf]; omega
          · have hsh := item_short hN hlt hit (by simp) (by simp)
            have HMN := Lib.hid (rmid_on HM.out hlt hit (n := m) rfl hsh)
            have hkm : (k : Int) < ((k + m : Nat) : Int) := by omega
            rw [hrc] at hco
            have HCO : Hid (Calls Try.prog 41 #[.slice (some ⟨gr, 0, none⟩) L.length rcap, .int .i64 (k : Int)] wr fun e w' => e = .returned (.tuple #[.int .i64 ((k + m : Nat) : Int), .bool false]) ∧ wr = w') := Lib.hid hco
            clear h10 hgb hrT hrF hw hit hN hrc hco hll
            go_wp2_with (first
              | (go_at_call 39; (with_reducible refine (HW.out _).mono ?_); rintro e w' ⟨rfl, rfl⟩)
              | (go_at_call 41; (with_reducible refine HCO.out.mono ?_); rintro e w' ⟨rfl, rfl⟩))
            go_roundw
            case rel => exact rl_on HMN.out (HB.out.sp true) HON.out HDN.out rfl rfl
            case measure => simp [intOf]; omega
          · have hR := rmid_opn HM.out hlt hit
            have hk1 : k + 1 < L.length := by rw [← hll]; exact getD_lt (by rw [h42]; decide)
            have hk1I : (k : Int) + 1 < (L.length : Int) := by omega
            obtain ⟨r2, hr2⟩ : ∃ r2, L[k + 1]? = some r2 := ⟨_, List.getElem?_eq_getElem hk1⟩
            obtain ⟨gq, hgq, -, -, -, f2⟩ := HC.out (k + 1) r2 hr2
            simp only [Option.some.injEq, Addr.mk.injEq, and_true] at hgq
            obtain rfl := hgq
            have hrT2 := rnT_at hr2
            have HRR : Hid (R = endA { a with diags := a.diags ++ [⟨1, r.f, r2.t⟩] } sz true) := Lib.hid (by rw [hR, ← hrF, ← hrT2]; rfl)
            have hLk : (k : Int) < (L.length : Int) := by omega
            rw [hrc, hll] at hco
            have HCO : Hid (Calls Try.prog 41 #[.slice (some ⟨gr, 0, none⟩) L.length rcap, .int .i64 (k : Int)] wr fun e w' => e = .returned (.tuple #[.int .i64 (L.length : Int), .bool true]) ∧ wr = w') := Lib.hid hco
            have hdl : a.diags.length ≤ 500000 := by omega
            have hll2 : a.lines.length ≤ 500000 := by omega
            have hk0 : (0 : Int) ≤ (k : Int) + 1 := by omega
            have hkt : ((k : Int) + 1).toNat = k + 1 := by omega
            have hkw : IntKind.i64.wrap ((k : Int) + 1) = (k : Int) + 1 := IntWalk.i64_in _ (by omega)
            clear h10 hgb hrT hrF hw hit hN hrc hco hll hR hr2 hrT2 h42
            go_wp2_with (first
              | (go_at_call 39; (with_reducible refine (HW.out _).mono ?_); rintro e w' ⟨rfl, rfl⟩)
              | (go_at_call 41; (with_reducible refine HCO.out.mono ?_); rintro e w' ⟨rfl, rfl⟩))
            go_region_law (first
              | (refine step_ex rfl (.tmp 66) (.tmp 81) 39 rfl _ _ _ rfl rfl (RB.pushD (W := W) (g := g) (F := F) (L := L) (rv := .slice (some ⟨gr, 0, none⟩) L.length rcap) (ov := .slice ob on oc) (dv := .slice db dn dc) (tv := .slice tb a.toks.length tcap) (to := 0) (op := false) (B1 := B1) (P := P) (a := a) ?_ ⟨1, r.f, r2.t⟩ ?_ hdl) ?_
                 · (repeat first | (with_reducible apply RB.drew) | (with_reducible apply RB.alloc)); (with_reducible exact HB.out)
                 · exact src_row (heap_drew (heap_alloc_new _ _)) rfl rfl
                 intro b4 n4 cap4 w4 hp
                 have HP4 := Lib.hid hp.2
                 have HN4 := Lib.hid hp.1
                 have hb4 : RB W g F L (.slice (some ⟨gr, 0, none⟩) L.length rcap) (.slice ob on oc) (.slice (some ⟨b4, 0, none⟩) n4 cap4) (.slice tb a.toks.length tcap) 0 false B1 P { a with diags := a.diags ++ [⟨1, r.f, r2.t⟩] } w4 := hp.2
                 have k04 := hb4.k0
                 have k14 : w4.cell? ⟨g, 1, none⟩ = some (.int .i64 (a.fr : Int)) := hb4.k1
                 have k24 : w4.cell? ⟨g, 2, none⟩ = some (.int .i64 0) := hb4.k2
                 have k34 := hb4.k3
                 have z04 := hb4.free 0
                 have z14 := hb4.free 1
                 have z24 := hb4.free 2
                 have z34 := hb4.free 3
                 have HB4 := Lib.hid hb4
                 clear hb4 hp))
            all_goals clear hkw hkt hk0
            all_goals go_wp2_with (at_builtin; refine wpList_append_ex rfl (.tmp 87) (.tmp 89) 63 rfl _ (RB.exL (W := W) (g := g) (F := F) (L := L) (rv := .slice (some ⟨gr, 0, none⟩) L.length rcap) (dv := .slice (some ⟨b4, 0, none⟩) n4 cap4) (tv := .slice tb a.toks.length tcap) (to := sz) (op := true) (B1 := B1) (P := P) (a := { a with diags := a.diags ++ [⟨1, r.f, r2.t⟩] }) (((HB4.out.setTo sz rfl).setOpen true).alloc _) (src_row (heap_set2_new _ _ _ _ _ _) rfl rfl) hll2) ?_; rintro v5 w5 ⟨b5, n5, cap5, rfl, hpl⟩; have HPL := Lib.hid hpl; clear hpl)
            all_goals go_ret2
            all_goals exact rl_open HPL.out HN4.out HDN.out HRR.out
    · have hke : k = L.length := by omega
      have hki : ¬ (k : Int) < (L.length : Int) := by omega
      obtain ⟨hRd, ⟨hA0, hR0⟩ | ⟨A, x, hA, hRA⟩⟩ := HM.out.2.2.2 hke
      · have hn0 : on = 0 := by rw [HON.out, hA0]; rfl
        subst hn0
        have HRES := Lib.hid (RB.none hb)
        have HX : Hid (0 = R.lines.length ∧ dn = R.diags.length ∧ R.lines = a.lines ∧ R.diags = a.diags) := Lib.hid ⟨by rw [hR0]; rfl, by rw [hRd]; exact HDN.out, by rw [hR0, hA0], hRd⟩
        clear hb hRd hA0 hR0
        go_wp2
        go_ret2
        obtain ⟨x1, x2, x3, x4⟩ := HX.out
        exact ⟨ob, 0, oc, db, dn, dc, rfl, x1, x2, by rw [x3]; exact HRES.out.1, by rw [x4]; exact HRES.out.2⟩
      · obtain ⟨gl, rfl, ⟨u, hu⟩, hfz, hLR, hDR⟩ := RB.last hb hA sz
        have hnA : on = A.length + 1 := by rw [HON.out, hA]; simp
        subst hnA
        have HX : Hid (A.length + 1 = R.lines.length ∧ dn = R.diags.length ∧ R.lines = A ++ [{ x with t := sz }] ∧ R.diags = a.diags) := Lib.hid ⟨by rw [hRA]; simp, by rw [hRd]; exact HDN.out, hRA, hRd⟩
        have HRES := Lib.hid (And.intro hLR hDR)
        have hAb : A.length ≤ 1000000 := by rw [hA] at hlim2; simp at hlim2; omega
        subst hsz
        clear hb hRd hA hRA hLR hDR
        go_wp2
        go_ret2
        obtain ⟨x1, x2, x3, x4⟩ := HX.out
        exact ⟨_, _, oc, db, dn, dc, rfl, x1, x2, by rw [x3]; exact HRES.out.1, by rw [x4]; exact HRES.out.2⟩

end Go.Proofs.Ytobplffailbkbaa
