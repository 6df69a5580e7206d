/-
  Texts of the proof, put together: GdCase.
-/
import Derived.Test.YtlnlpahmfpjjdaaDoorG46
import Derived.Test.YtlnlpahmfpjjdaaDoorG34

/-
  The document's Build: each case of its round, ready to be walked, and what it leaves.
-/
namespace Go.Proofs.YtlnlpahmfpjjdaaDoor
open Go.RowKit

section
variable {W : World} {c : Col} {d : Nat} {F : List (Fr × Fv)} {i la lc : Nat} {ca : Option Addr} {cn cc : Nat} {w : World} {s : Bs} {ea ba : Option Addr} {ec bn bc : Nat}

def ConR (W : World) (c : Col) (d : Nat) (F : List (Fr × Fv)) (i g la lc : Nat) (w : World) (b n cap : Nat) (w' : World) : Prop := ∃ c', n = F.length ∧ RHalf W c' d F i g la lc (some ⟨b, 0, none⟩) n cap w' ∧ KeepC c c' w w'
theorem con_ready {ty : TypeId} (h : RCore W c d F la lc ca cn cc w) (hd : d ≤ 400000) (i : Nat) :
    ∃ v' w', (Builtin.append_ #[47, 47] ty #[.slice ca cn cc, .slice (some ⟨w.heap.size + 1, 0, none⟩) 1 1]).run Tryd.prog ((w.alloc (.cells #[.int .i64 (i : Int), .slice none 0 0] 99)).alloc (.cells #[.int .i64 2, .int .i64 (i : Int), .slice (some ⟨w.heap.size, 0, none⟩) 1 1] 102)) = .ok v' w' ∧ ∃ b n cap, v' = .slice (some ⟨b, 0, none⟩) n cap ∧ ConR W c d F i w.heap.size la lc w b n cap w' := by
  have hb1 : Below w.heap.size w (w.alloc (.cells #[.int .i64 (i : Int), .slice none 0 0] 99)) := (Below.refl _ _).alloc (Nat.le_refl _) _
  have hb2 : Below w.heap.size w ((w.alloc (.cells #[.int .i64 (i : Int), .slice none 0 0] 99)).alloc (.cells #[.int .i64 2, .int .i64 (i : Int), .slice (some ⟨w.heap.size, 0, none⟩) 1 1] 102)) := hb1.alloc (by simp) _
  have hA := heap_alloc_new w (.cells #[.int .i64 (i : Int), .slice none 0 0] 99)
  have hT := heap_alloc_new (w.alloc (.cells #[.int .i64 (i : Int), .slice none 0 0] 99)) (.cells #[.int .i64 2, .int .i64 (i : Int), .slice (some ⟨w.heap.size, 0, none⟩) 1 1] 102)
  rw [World.size_alloc] at hT
  have h1 := (h.recol (c1 := fun g => if g = w.heap.size then 3 * F.length + 4 else c g) (fun g hg => if_neg (by omega))).over hb2
  obtain ⟨b, n, cap, w', hr, c', hm, hk⟩ := h1.con_push (ty := ty) (i := i) hd (g := w.heap.size) ((heap_alloc_old _ _ (by simp)).trans hA) (if_pos rfl) h.bel.size (src_row hT rfl rfl)
  exact ⟨_, w', hr, b, n, cap, rfl, c', hm.cln, hm, KeepC.trans ⟨hb2.size, fun g hg _ => ⟨if_neg (by omega), hb2.block g hg⟩⟩ hk⟩
/-- One more that has not ended. -/
def EndR (W : World) (d : Nat) (F : List (Fr × Fv)) (i g la lc : Nat) (ca : Option Addr) (cn cc : Nat) (s : Bs) (bv : Value) (bn : Nat) (b n cap : Nat) (w' : World) : Prop :=
  ∃ c', n = cn ∧ RHalf W c' d F i g la lc ca cn cc w' ∧ RowC c' 2 W.heap.size 4 1 (.slice (some ⟨b, 0, none⟩) n cap) n ((s.st.reverse.map fun f => .bool f.en) ++ [.bool false]) w' ∧ RowC c' 3 W.heap.size 3 1 bv bn (ivals (s.bad.map fun b : Nat => (b : Int))) w'
theorem end_ready {ty : TypeId} {g m : Nat} (h : RHalf W c d F i g la lc ca cn cc w) (hd : d ≤ 400000) (hm : m + 1 = cn) (hE : RowC c 2 W.heap.size 4 1 (.slice ea m ec) m (s.st.reverse.map fun f => .bool f.en) w) {bv : Value} (hB : RowC c 3 W.heap.size 3 1 bv bn (ivals (s.bad.map fun b : Nat => (b : Int))) w) :
    ∃ v' w', (Builtin.append_ #[97, 97] ty #[.slice ea m ec, .slice (some ⟨w.heap.size, 0, none⟩) 1 1]).run Tryd.prog (w.alloc (.cells #[.bool false] 4)) = .ok v' w' ∧ ∃ b n cap, v' = .slice (some ⟨b, 0, none⟩) n cap ∧ EndR W d F i g la lc ca cn cc s bv bn b n cap w' := by
  obtain ⟨i0, hi, hz0, hz1, hz2⟩ := info_parts Tryd.infoBool8
  have hb1 : Below w.heap.size w (w.alloc (.cells #[.bool false] 4)) := (Below.refl _ _).alloc (Nat.le_refl _) _
  have h1 := h.over hb1
  have hfew := h.few
  have hcl := h.cln
  obtain ⟨b, n, cap, w', hr, hn, c', hp, sC, hb⟩ := rowc_push (ty := ty) Tryd.underlying97 hi hz0 hz1 hz2 rfl (by decide) (by decide) (hE.chg (Chg.below 9 c hb1) (by omega)) (src_one w (.bool false) 4) (by
    intro u hu
    simp only [List.mem_cons, List.not_mem_nil, or_false] at hu
    rw [hu]; rfl) (by omega) (by omega) h1.bel.size
  exact ⟨_, w', hr, b, n, cap, rfl, c', by omega, h1.chg sC (.inl rfl) (h1.bel.trans hb), hp, (hB.chg (Chg.below 9 c hb1) (by omega)).chg sC (by omega)⟩
theorem lev_ready {ty : TypeId} {g n : Nat} (h : RHalf W c d F i g la lc ca cn cc w) (hn : F.length = n) (hd : d ≤ 400000) :
    ∃ v' w', (Builtin.append_ #[96, 96] ty #[.slice (some ⟨la, 0, none⟩) n lc, .slice (some ⟨w.heap.size, 0, none⟩) 1 1]).run Tryd.prog (w.alloc (.cells #[.slice none 0 0] 47)) = .ok v' w' ∧ ∃ b n cap, v' = .slice (some ⟨b, 0, none⟩) n cap ∧ LevP W c d F i g ca cn cc (w.alloc (.cells #[.slice none 0 0] 47)) b n cap w' := by
  subst hn
  exact as_value ((h.over ((Below.refl _ _).alloc (Nat.le_refl _) _)).lev_push hd (src_one w (.slice none 0 0) 47))

theorem rb_begin {kd : Nat} {ne : Bool} {b n cap : Nat} {x : Fv} {ev bv : Value} (hk : 2 ≤ kd ∧ kd ≤ 4) (hF : F.map Prod.fst = stackOf s) (hn : n = F.length + 1) (h : RCore W c (d + 1) (F ++ [(newFr i, x)]) b cap ca cn cc w)
    (hE : RowC c 2 W.heap.size 4 1 ev cn ((s.st.reverse.map fun f => .bool f.en) ++ [.bool false]) w) (hev : ∃ a q, ev = .slice a cn q) (hB : RowC c 3 W.heap.size 3 1 bv bn (ivals (s.bad.map fun b : Nat => (b : Int))) w) (hbv : ∃ a q, bv = .slice a bn q) (hbn : bn ≤ d) :
    RBldS W (d + 2) (stepB s i kd ne) (.slice (some ⟨b, 0, none⟩) n cap) (.slice ca cn cc) ev bv w := by
  obtain ⟨ea, ec, rfl⟩ := hev
  obtain ⟨ba, bc, rfl⟩ := hbv
  have e : stepB s i kd ne = { s with st := ⟨i, [], i, [], false⟩ :: s.st } := by unfold stepB; rw [if_pos hk]
  rw [e]
  refine ⟨c, _, b, cap, ca, cn, cc, ea, ec, ba, bn, bc, by rw [hn, List.length_append]; rfl, rfl, rfl, rfl, h.more, ?_, ?_, hB, by omega⟩
  · rw [List.map_append, hF]
    simp [stackOf, newFr]
  · have e2 : (({ s with st := ⟨i, [], i, [], false⟩ :: s.st } : Bs).st.reverse.map fun f => Value.bool f.en) = (s.st.reverse.map fun f => Value.bool f.en) ++ [Value.bool false] := by simp
    rw [e2]
    exact hE

theorem item_step {s : Bs} {i k : Nat} {ne : Bool} (h : k < 2 ∨ 7 < k) (h0 : k ≠ 0 ∨ ne = true) : stepB s i k ne = putB s (.mk (k : Int) (i : Int) []) := by
  unfold stepB
  rw [if_neg (by omega), if_neg (by omega), if_neg (by omega), if_neg (by omega), if_neg (by omega), if_pos h0]
theorem none_step {s : Bs} {i : Nat} {ne : Bool} (h : ne = false) : stepB s i 0 ne = s := by
  unfold stepB
  rw [if_neg (by omega), if_neg (by omega), if_neg (by omega), if_neg (by omega), if_neg (by omega), if_neg (by simp [h])]
theorem bad_step1 {s : Bs} {i k : Nat} {ne : Bool} (h : 5 ≤ k ∧ k ≤ 7) (hs : s.st = []) : stepB s i k ne = { s with bad := s.bad ++ [i] } := by
  unfold stepB
  rw [if_neg (by omega), if_pos ⟨h.1, h.2, hs⟩]
theorem bad_step2 {s : Bs} {i k : Nat} {ne : Bool} {f : Fr} {r : List Fr} (h : k = 5 ∨ k = 6) (hs : s.st = f :: r) (he : f.en = true) : stepB s i k ne = { s with bad := s.bad ++ [i] } := by
  unfold stepB
  rw [if_neg (by omega), if_neg (fun e => by rw [hs] at e; cases e.2.2), if_pos ⟨h, by unfold endedB; rw [hs]; exact he⟩]
theorem arm_step {s : Bs} {i k : Nat} {ne : Bool} {f : Fr} {r : List Fr} (h : k = 5 ∨ k = 6) (hs : s.st = f :: r) (he : f.en = false) : stepB s i k ne = armB s i k := by
  unfold stepB
  rw [if_neg (by omega), if_neg (fun e => by rw [hs] at e; cases e.2.2), if_neg (fun e => by have := e.2; unfold endedB at this; rw [hs] at this; have h2 : f.en = true := this; rw [he] at h2; cases h2), if_pos h]
theorem close_step {s : Bs} {i : Nat} {ne : Bool} {f : Fr} {r : List Fr} (hs : s.st = f :: r) : stepB s i 7 ne = closeB s := by
  unfold stepB
  rw [if_neg (by omega), if_neg (fun e => by rw [hs] at e; cases e.2.2), if_neg (fun e => by omega), if_neg (by omega), if_pos rfl]

/-- A line out of place. -/
def BadR (W : World) (d : Nat) (s' : Bs) (lv cv ev : Value) (b n cap : Nat) (w' : World) : Prop := RBldS W (d + 2) s' lv cv ev (.slice (some ⟨b, 0, none⟩) n cap) w'
theorem bad_ready {ty : TypeId} {m fl : Nat} (h : RCore W c d F la lc ca cn cc w) (hfl : F.length = fl) (hd : d ≤ 400000) (hF : F.map Prod.fst = stackOf s) (hE : RowC c 2 W.heap.size 4 1 (.slice ea m ec) m (s.st.reverse.map fun f => .bool f.en) w) (hm : m = cn) (hB : RowC c 3 W.heap.size 3 1 (.slice ba bn bc) bn (ivals (s.bad.map fun b : Nat => (b : Int))) w) (hbn : bn ≤ d) (i : Nat) :
    ∃ v' w', (Builtin.append_ #[54, 54] ty #[.slice ba bn bc, .slice (some ⟨w.heap.size, 0, none⟩) 1 1]).run Tryd.prog (w.alloc (.cells #[.int .i64 (i : Int)] 3)) = .ok v' w' ∧ ∃ b n cap, v' = .slice (some ⟨b, 0, none⟩) n cap ∧ BadR W d { s with bad := s.bad ++ [i] } (.slice (some ⟨la, 0, none⟩) fl lc) (.slice ca cn cc) (.slice ea m ec) b n cap w' := by
  subst hm hfl
  obtain ⟨i0, hi, hz0, hz1, hz2⟩ := info_parts Tryd.infoNum
  have hb1 : Below w.heap.size w (w.alloc (.cells #[.int .i64 (i : Int)] 3)) := (Below.refl _ _).alloc (Nat.le_refl _) _
  have h1 := h.over hb1
  obtain ⟨b, n, cap, w', hr, hn, c', hp, sC, hb⟩ := rowc_push (ty := ty) Tryd.underlying54 hi hz0 hz1 hz2 rfl (by decide) (by decide) (hB.chg (Chg.below 9 c hb1) (by omega)) (src_one w (.int .i64 (i : Int)) 3) (by
    intro u hu
    simp only [List.mem_cons, List.not_mem_nil, or_false] at hu
    rw [hu]; rfl) (by omega) (by omega) h1.bel.size
  refine ⟨_, w', hr, b, n, cap, rfl, c', F, la, lc, ca, m, cc, ea, ec, some ⟨b, 0, none⟩, n, cap, rfl, rfl, rfl, rfl, ((h1.chg sC (.inr rfl) (h1.bel.trans hb)).more).more, hF, (hE.chg (Chg.below 9 c hb1) (by omega)).chg sC (by omega), ?_, by omega⟩
  have e : ivals ((s.bad ++ [i]).map fun b : Nat => (b : Int)) = ivals (s.bad.map fun b : Nat => (b : Int)) ++ [.int .i64 (i : Int)] := by simp [ivals]
  show RowC c' 3 _ _ _ _ _ (ivals ((s.bad ++ [i]).map fun b : Nat => (b : Int))) w'
  rw [e]
  exact hp

/-- The top's last flag. -/
theorem end_cell {B q : Nat} {f : Fr} {r : List Fr} (hE : RowC c 2 B 4 1 (.slice ea (q + 1) ec) (q + 1) (s.st.reverse.map fun f => .bool f.en) w) (hs : s.st = f :: r) :
    ∃ eg, ea = some ⟨eg, 0, none⟩ ∧ w.cell? ⟨eg, q, none⟩ = some (.bool f.en) ∧ w.frozen? ⟨eg, q, none⟩ = false ∧ q + 1 ≤ ec ∧ ec ≤ maxLen ∧ eg < w.heap.size ∧ B ≤ eg ∧ c eg = 2 := by
  obtain ⟨a, cap, hv, h1, h2, h3⟩ := row_form hE.1
  simp only [Value.slice.injEq, true_and] at hv
  obtain ⟨rfl, rfl⟩ := hv
  have hl := hE.1.1
  have hq : r.length = q := by
    rw [List.length_map, List.length_reverse, hs, List.length_cons] at hl
    omega
  obtain ⟨g, hg, hlt, hc⟩ := h3 q (.bool f.en) (by
    rw [hs, List.reverse_cons, List.map_append, List.getElem?_append_right (by rw [List.length_map, List.length_reverse]; omega), List.length_map, List.length_reverse, hq, Nat.sub_self]
    rfl)
  subst hg
  exact ⟨g, rfl, hc, own_freeX hE.1 _, h1, h2, hlt, (World.ownsRow.lt hE.1 g rfl).1, hE.2 g rfl⟩

/-- The top's frame, and the one below it. -/
theorem tops {f : Fr} {r : List Fr} {q : Nat} (hF : F.map Prod.fst = stackOf s) (hs : s.st = f :: r) (hl : F.length = q + 1 + 1) : ∃ F1 g y x, F = (F1 ++ [(g, y)]) ++ [(f, x)] ∧ F1.length = q ∧ (F1 ++ [(g, y)]).map Prod.fst = stackOf { s with st := r } := by
  rw [stack_some hs] at hF
  obtain ⟨X, x, rfl, hX⟩ := map_snoc_inv hF
  obtain ⟨L, a, hL⟩ := stack_ends { s with st := r }
  have hL' : baseFr s.ba :: r.reverse = L ++ [a] := hL
  have hX0 := hX
  rw [hL'] at hX
  obtain ⟨F1, y, rfl, hF1⟩ := map_snoc_inv hX
  simp only [List.length_append, List.length_cons, List.length_nil] at hl
  exact ⟨F1, a, y, x, rfl, by omega, hX0⟩
theorem rb_close {f : Fr} {r : List Fr} {q : Nat} {F1 : List (Fr × Fv)} {g : Fr} {y y' : Fv} {eg : Nat} {bv : Value} (hs : s.st = f :: r) (hX : (F1 ++ [(g, y)]).map Prod.fst = stackOf { s with st := r }) (hq : F1.length = q) (h : RCore W c (d + 2) (F1 ++ [({ g with cu := g.cu ++ [frItem f] }, y')]) la lc ca cn cc w) (hcn : cn = q)
    (hE : RowC c 2 W.heap.size 4 1 (.slice (some ⟨eg, 0, none⟩) (q + 1) ec) (q + 1) (s.st.reverse.map fun f => .bool f.en) w) (hB : RowC c 3 W.heap.size 3 1 bv bn (ivals (s.bad.map fun b : Nat => (b : Int))) w) (hbv : ∃ a q, bv = .slice a bn q) (hbn : bn ≤ d) :
    RBldS W (d + 2) (closeB s) (.slice (some ⟨la, 0, none⟩) (q + 1) lc) (.slice ca cn cc) (.slice (some ⟨eg, 0, none⟩) q ec) bv w := by
  obtain ⟨ba, bc, rfl⟩ := hbv
  subst hcn
  have hc : closeB s = putB { s with st := r } (frItem f) := by unfold closeB; rw [hs]
  have hl := hE.1.1
  rw [List.length_map, List.length_reverse, hs, List.length_cons] at hl
  obtain ⟨L, a, hL⟩ := stack_ends { s with st := r }
  have e2 : (closeB s).st.reverse.map (fun f => Value.bool f.en) = r.reverse.map (fun f => Value.bool f.en) := by
    rw [hc]
    unfold putB
    cases r with
    | nil => rfl
    | cons a r => simp
  refine ⟨c, _, la, lc, ca, cn, cc, some ⟨eg, 0, none⟩, ec, ba, bn, bc, by rw [List.length_append, hq]; rfl, rfl, rfl, rfl, h, ?_, ?_, by rw [bad_close]; exact hB, by omega⟩
  · rw [hL, List.map_append] at hX
    obtain ⟨h1, h2⟩ := List.append_inj' hX rfl
    simp only [List.map_cons, List.map_nil, List.cons.injEq, and_true] at h2
    rw [hc, stack_put hL, List.map_append, h1]
    simp [h2]
  · rw [e2]
    have h1 := own_shrink hE.1 (m := cn) (by omega)
    rw [hs, List.reverse_cons, List.map_append, List.take_left' (by rw [List.length_map, List.length_reverse]; omega)] at h1
    exact ⟨h1, hE.2⟩

/-- An item of the top's. -/
theorem top_one (hF : F.map Prod.fst = stackOf s) : ∃ X f x, F = X ++ [(f, x)] ∧ ∃ L, stackOf s = L ++ [f] ∧ X.map Prod.fst = L := by
  obtain ⟨L, a, hL⟩ := stack_ends s
  rw [hL] at hF
  obtain ⟨X, x, rfl, hX⟩ := map_snoc_inv hF
  exact ⟨X, a, x, rfl, L, hL, hX⟩
def ItemR (W : World) (c : Col) (d : Nat) (X : List (Fr × Fv)) (x : Fv) (it : Itm) (av : Value) (w : World) (b n cap : Nat) (w' : World) : Prop := ∃ c', LevAt c' W.heap.size 102 (3 * X.length + 4) d (.slice (some ⟨b, 0, none⟩) n cap) (x.P ++ [(it, av)]) w' ∧ Chg (3 * X.length + 4 + 1) c c' w w' ∧ Below W.heap.size w w'
theorem item_ready {ty : TypeId} {X : List (Fr × Fv)} {f : Fr} {x : Fv} (h : RCore W c d (X ++ [(f, x)]) la lc ca cn cc w) (hd : d ≤ 400000) (kd i : Nat) :
    ∃ v' w', (Builtin.append_ #[47, 47] ty #[.slice x.ia x.im x.ic, .slice (some ⟨w.heap.size, 0, none⟩) 1 1]).run Tryd.prog (w.alloc (.cells #[.int .i64 (kd : Int), .int .i64 (i : Int), .slice none 0 0] 102)) = .ok v' w' ∧ ∃ b n cap, v' = .slice (some ⟨b, 0, none⟩) n cap ∧ ItemR W c d X x (.mk kd i []) (.slice none 0 0) (w.alloc (.cells #[.int .i64 (kd : Int), .int .i64 (i : Int), .slice none 0 0] 102)) b n cap w' := by
  obtain ⟨i1, hi1, hz10, hz11, hz12⟩ := info_parts Tryd.infoItmR
  have h1 := h.over ((Below.refl _ _).alloc (Nat.le_refl _) (.cells #[.int .i64 (kd : Int), .int .i64 (i : Int), .slice none 0 0] 102))
  have hf := h1.fr (F1 := []) rfl
  exact as_value (LevAt.push (ty := ty) (x := .mk kd i []) (v := .slice none 0 0) Tryd.underlying47 hi1 hz10 hz11 hz12 hf.lev ⟨none, 0, rfl, Nat.le_refl _, Nat.zero_le _, fun j x hx => by cases hx⟩ (src_row (heap_alloc_new _ _) rfl rfl) (by have := hf.fp; omega) h1.bel.size)
theorem rb_item {X : List (Fr × Fv)} {f : Fr} {x : Fv} {it : Itm} {av : Value} {b n cap q m : Nat} {L : List Fr} {w' : World} {ev bv : Value} (h : RCore W c d (X ++ [(f, x)]) la lc ca cn cc w) (hp : ItemR W c d X x it av w b n cap w') (hL : stackOf s = L ++ [f]) (hX : X.map Prod.fst = L) (hq : X.length = q) (hm : m = cn)
    (hE : RowC c 2 W.heap.size 4 1 ev m (s.st.reverse.map fun f => .bool f.en) w) (hev : ∃ a q, ev = .slice a m q) (hB : RowC c 3 W.heap.size 3 1 bv bn (ivals (s.bad.map fun b : Nat => (b : Int))) w) (hbv : ∃ a q, bv = .slice a bn q) (hbn : bn ≤ d) :
    RBldS W (d + 2) (putB s it) (.slice (some ⟨la, 0, none⟩) (q + 1) lc) (.slice ca m cc) ev bv (w'.setCell ⟨la, q, none⟩ (.slice (some ⟨b, 0, none⟩) n cap)) := by
  obtain ⟨ea, ec, rfl⟩ := hev
  obtain ⟨ba, bc, rfl⟩ := hbv
  subst hq hm
  obtain ⟨c', hl, sC, hb⟩ := hp
  have h2 := h.add hl sC hb
  have hla' : c' la = 0 := (sC.col _ h.llt.1).trans h.llt.2.2
  have s2 := Chg.set c' w' ⟨la, X.length, none⟩ (.slice (some ⟨b, 0, none⟩) n cap)
  rw [hla'] at s2
  have e2 : (putB s it).st.reverse.map (fun f => Value.bool f.en) = s.st.reverse.map (fun f => Value.bool f.en) := by
    unfold putB
    cases hs : s.st with
    | nil => simp
    | cons a r => simp
  refine ⟨c', _, la, lc, ca, m, cc, ea, ec, ba, bn, bc, by rw [List.length_append]; rfl, rfl, rfl, rfl, h2.more, ?_, ?_, ?_, by omega⟩
  · rw [stack_put hL, List.map_append, hX]
    rfl
  · rw [e2]
    exact (hE.chg sC (by omega)).chg s2 (by omega)
  · rw [bad_put]
    exact (hB.chg sC (by omega)).chg s2 (by omega)
end

end Go.Proofs.YtlnlpahmfpjjdaaDoor
