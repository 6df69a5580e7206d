/-
  Texts of the proof, put together: GcEvL, GcFlat, GrLines.
-/
import Derived.Test.YtlnlpahmfpjjdaaDoorG35
import Derived.Test.YtlnlpahmfpjjdaaDoorG02
import Derived.Test.YtlnlpahmfpjjdaaDoorG36
import Derived.Test.YtlnlpahmfpjjdaaDoorG12
import Derived.Test.YtlnlpahmfpjjdaaDoorG11
import Derived.Test.YtlnlpahmfpjjdaaDoorG31
import Derived.Deep.RegionLaw

/-
  What is told in order is the flat list; the deepest that is told is the depth: over lists.
-/
namespace Go.Proofs.YtlnlpahmfpjjdaaDoor

def mxD (T : List (Int × Nat)) (n : Nat) : Nat := T.foldl (fun m p => max m p.2) n
theorem mxD_app (a b : List (Int × Nat)) (n : Nat) : mxD (a ++ b) n = mxD b (mxD a n) := List.foldl_append
theorem mxD_snoc (a : List (Int × Nat)) (p : Int × Nat) (n : Nat) : mxD (a ++ [p]) n = max (mxD a n) p.2 := by rw [mxD_app]; rfl

theorem foldI_max (D : List Itm → Nat) : ∀ (qs : List (Int × List Itm)) (n : Nat), qs.foldl (fun n a => max n (1 + D a.2)) n = max n (qs.foldl (fun n a => max n (1 + D a.2)) 0)
  | [], n => by simp
  | a :: r, n => by
    rw [List.foldl_cons, List.foldl_cons, foldI_max D r (max n (1 + D a.2)), foldI_max D r (max 0 (1 + D a.2))]
    omega
theorem foldF_max (D : List Itm → Nat) : ∀ (l : List Itm) (n : Nat), l.foldl (deepI D) n = max n (l.foldl (deepI D) 0)
  | [], n => by simp
  | a :: r, n => by
    rw [List.foldl_cons, List.foldl_cons, foldF_max D r (deepI D n a), foldF_max D r (deepI D 0 a)]
    have := foldI_max D a.arms n
    unfold deepI
    rw [this]
    omega

theorem mx_arms {d dp : Nat} (ih : ∀ (l : List Itm) (dp m0 : Nat), Fits d l → mxD (evIts dp l) (dp + m0) = dp + max m0 (deepF d l)) : ∀ (qs : List (Int × List Itm)) (m0 : Nat), (∀ a ∈ qs, Fits d a.2) → mxD (evArms (dp + 1) qs) (dp + m0) = dp + qs.foldl (fun n a => max n (1 + deepF d a.2)) m0
  | [], m0, _ => by simp [evArms, mxD]
  | (l, its) :: r, m0, h => by
    rw [evArms, evArm, List.cons_append, List.foldl_cons]
    show mxD (evIts (dp + 1) its ++ evArms (dp + 1) r) (max (dp + m0) (dp + 1)) = _
    rw [mxD_app, show max (dp + m0) (dp + 1) = (dp + 1) + (max m0 1 - 1) from by omega, ih its (dp + 1) _ (h _ List.mem_cons_self), show dp + 1 + max (max m0 1 - 1) (deepF d its) = dp + max m0 (1 + deepF d its) from by omega]
    exact mx_arms ih r _ fun a ha => h a (List.mem_cons_of_mem _ ha)

theorem mx_its : ∀ (d : Nat) (l : List Itm) (dp m0 : Nat), Fits d l → mxD (evIts dp l) (dp + m0) = dp + max m0 (deepF d l)
  | 0, l, dp, m0, h => by
    have : ∀ (l : List Itm), (∀ it ∈ l, it.arms = []) → mxD (evIts dp l) (dp + m0) = dp + m0 := by
      intro l
      induction l with
      | nil => intro _; simp [evIts, mxD]
      | cons it r ih =>
        intro h
        rw [evIts, mxD_app, itm_eta it, h it List.mem_cons_self, ev_leaf]
        show mxD (evIts dp r) (max (dp + m0) dp) = _
        rw [show max (dp + m0) dp = dp + m0 from by omega]
        exact ih fun it hit => h it (List.mem_cons_of_mem _ hit)
    rw [this l h]
    show _ = dp + max m0 0
    omega
  | d + 1, l, dp, m0, h => by
    have ih := mx_its d
    have key : ∀ (l : List Itm) (m0 : Nat), Fits (d + 1) l → mxD (evIts dp l) (dp + m0) = dp + l.foldl (deepI (deepF d)) m0 := by
      intro l
      induction l with
      | nil => intro m0 _; simp [evIts, mxD]
      | cons it r ihl =>
        intro m0 h
        have hr : Fits (d + 1) r := fun it hit => h it (List.mem_cons_of_mem _ hit)
        rw [evIts, mxD_app, List.foldl_cons]
        have hit : mxD (it.evT dp) (dp + m0) = dp + deepI (deepF d) m0 it := by
          have ha := h it List.mem_cons_self
          obtain ⟨k, ln, qs⟩ := it
          by_cases hq : qs = []
          · subst hq
            rw [ev_leaf]
            show max (dp + m0) dp = dp + m0
            omega
          · rw [ev_cond hq]
            exact mx_arms ih qs m0 ha
        rw [hit]
        exact ihl _ hr
    rw [key l m0 h, foldF_max]
    rfl
theorem mx_deep {d : Nat} {l : List Itm} (h : Fits d l) : mxD (evIts 0 l) 0 = deepF d l := by
  have := mx_its d l 0 0 h
  simpa using this

mutual
theorem ev_flatT (dp : Nat) : ∀ it : Itm, (it.evT dp).map Prod.fst = it.flatT
  | .mk k line [] => by rw [Itm.evT, Itm.flatT]; rfl
  | .mk k line (a :: r) => by rw [Itm.evT, Itm.flatT, List.map_append, ev_flatArm (dp + 1) a, ev_flatArms (dp + 1) r]
theorem ev_flatArm (dp : Nat) : ∀ a : Int × List Itm, (evArm dp a).map Prod.fst = flatArm a
  | (l, its) => by rw [evArm, flatArm, List.map_cons, ev_flatIts dp its]
theorem ev_flatArms (dp : Nat) : ∀ qs : List (Int × List Itm), (evArms dp qs).map Prod.fst = flatArms qs
  | [] => by rw [evArms, flatArms]; rfl
  | a :: r => by rw [evArms, flatArms, List.map_append, ev_flatArm dp a, ev_flatArms dp r]
theorem ev_flatIts (dp : Nat) : ∀ l : List Itm, (evIts dp l).map Prod.fst = flatIts l
  | [] => by rw [evIts, flatIts]; rfl
  | it :: r => by rw [evIts, flatIts, List.map_append, ev_flatT dp it, ev_flatIts dp r]
end

end Go.Proofs.YtlnlpahmfpjjdaaDoor

/-
  The project's Flat and Depth, walked.
-/
namespace Go.Proofs.YtlnlpahmfpjjdaaDoor
open Go.RowKit

theorem ints_grow {B : Nat} {w : World} {ty : TypeId} {v sv : Value} {n : Nat} {xs : List Int} {y : Int} (h : w.ownsRow B 3 1 v n (ivals xs)) (hs : Src w sv 1 1 (ivals [y])) (hn : n + 1 ≤ 17592186044416) (hB : B ≤ w.heap.size) :
    ∃ b n' cap w', (Builtin.append_ #[54, 54] ty #[v, sv]).run Tryd.prog w = .ok (.slice (some ⟨b, 0, none⟩) n' cap) w' ∧ (n' = n + 1 ∧ w'.ownsRow B 3 1 (.slice (some ⟨b, 0, none⟩) n' cap) n' (ivals (xs ++ [y])) ∧ w.grownBy w' v.ownBlock) := by
  obtain ⟨i0, hi, hz0, hz1, hz2⟩ := info_parts Tryd.infoNum
  rw [ivals_app]
  rcases hs with ⟨-, h0, -⟩ | ⟨ad, c, rfl, hl, hc⟩
  · cases h0
  · obtain ⟨v', w', hr, h2, h3, -⟩ := run_append_own (P := Tryd.prog) w B 54 ty 3 i0 (.int .i64 0) 1 8 Tryd.underlying54 hi hz0 hz1 hz2 rfl (by decide) v n _ h ad 1 c (ivals [y]) hl hc (ivals_one [y]) (by unfold maxLen; omega) (by omega) hB
    obtain ⟨b, cap, rfl⟩ := append_form h2 (by omega)
    exact ⟨b, _, cap, w', hr, rfl, h2, h3⟩

def FlatInv (W0 : World) (vb : Nat) (T : List (Int × Nat)) (w : World) : Prop :=
  W0.heap.size ≤ vb ∧ ∃ a n c, w.heap[vb]? = some (.cells #[.slice a n c] 54 (0, 0)) ∧ n = T.length ∧ w.ownsRow W0.heap.size 3 1 (.slice a n c) n (ivals (T.map Prod.fst))
theorem not_rest {cs : Array Value} {t : TypeId} (h : t ≠ 127) : ∀ cs' : Array Value, Obj.cells cs t (0, 0) ≠ Obj.cells cs' 127 (0, 0) := fun cs' e => by
  injection e with _ e2
  exact h e2

def FStep (W0 : World) (vb : Nat) (T : List (Int × Nat)) (w : World) (b n cap : Nat) (w' : World) : Prop :=
  w'.cell? ⟨vb, 0, none⟩ ≠ none ∧ w'.frozen? ⟨vb, 0, none⟩ = false ∧ FlatInv W0 vb T (w'.setCell ⟨vb, 0, none⟩ (.slice (some ⟨b, 0, none⟩) n cap)) ∧ KeepR w (w'.setCell ⟨vb, 0, none⟩ (.slice (some ⟨b, 0, none⟩) n cap)) ∧ Below W0.heap.size W0 (w'.setCell ⟨vb, 0, none⟩ (.slice (some ⟨b, 0, none⟩) n cap))

theorem fstep {W0 w : World} {vb n cap : Nat} {a : Option Addr} {T : List (Int × Nat)} {line : Int} {deep : Nat} {ty : TypeId} (hv : W0.heap.size ≤ vb) (hx : w.heap[vb]? = some (.cells #[.slice a n cap] 54 (0, 0))) (hn : n = T.length) (ho : w.ownsRow W0.heap.size 3 1 (.slice a n cap) n (ivals (T.map Prod.fst))) (hb : Below W0.heap.size W0 w) (hl : T.length + 1 ≤ 17592186044416) :
    ∃ b n' cap' w', (Builtin.append_ #[54, 54] ty #[.slice a n cap, .slice (some ⟨w.heap.size, 0, none⟩) 1 1]).run Tryd.prog (w.alloc (.cells #[.int .i64 line] 3)) = .ok (.slice (some ⟨b, 0, none⟩) n' cap') w' ∧ FStep W0 vb (T ++ [(line, deep)]) w b n' cap' w' := by
  have hb1 : Below W0.heap.size W0 (w.alloc (.cells #[.int .i64 line] 3)) := hb.alloc hb.size _
  obtain ⟨b, n', cap', w', hr, hn', h2, h3⟩ := ints_grow (ty := ty) (World.ownsRow.alloc ho (.cells #[.int .i64 line] 3)) (src_one w (.int .i64 line) 3) (y := line) (by omega) hb1.size
  have hx1 : (w.alloc (.cells #[.int .i64 line] 3)).heap[vb]? = some (.cells #[.slice a n cap] 54 (0, 0)) := (heap_alloc_old w _ (row_lt hx)).trans hx
  have hrow : ∀ g, (Value.slice a n cap).ownBlock = some g → ∃ cs, w.heap[g]? = some (.cells cs 3 (0, 0)) := fun g hg => by
    obtain ⟨ad, rfl⟩ : ∃ ad, a = some ad := by cases a with
      | none => cases hg
      | some ad => exact ⟨ad, rfl⟩
    have := own_block hg ho
    rw [this] at ho
    exact own_heap ho
  have hvb : (Value.slice a n cap).ownBlock ≠ some vb := fun e => by
    obtain ⟨cs, hcs⟩ := hrow vb e
    rw [hx] at hcs
    injection hcs with h
    injection h with _ h
    exact absurd h (by decide)
  have hx2 : w'.heap[vb]? = some (.cells #[.slice a n cap] 54 (0, 0)) := (h3.block vb (row_lt hx1) fun e => hvb e.symm).trans hx1
  have hbb : b ≠ vb := fun e => by
    obtain ⟨cs, hcs⟩ := own_heap h2
    rw [e, hx2] at hcs
    injection hcs with h
    injection h with _ h
    exact absurd h (by decide)
  refine ⟨b, n', cap', w', hr, by rw [Lib.cell_of_heap hx2]; simp, frozen_of_row w' vb 0 _ _ hx2, ⟨hv, some ⟨b, 0, none⟩, n', cap', ?_, by rw [hn', hn, List.length_append]; rfl, ?_⟩, ⟨?_, fun g cs hg => ?_⟩, ?_⟩
  · exact heap_setCell_same w' vb 0 _ _ _ hx2
  · rw [List.map_append]
    exact own_of_block h2 fun g hg => by
      simp only [Value.ownBlock, Option.some.injEq] at hg
      subst hg
      exact heap_setCell_other _ _ _ _ hbb
  · have := h3.size
    simp [World.setCell] at this ⊢
    omega
  · have hgv : g ≠ vb := fun e => by
      rw [e, hx] at hg
      injection hg with h
      injection h with _ h
      exact absurd h (by decide)
    have hgr : some g ≠ (Value.slice a n cap).ownBlock := fun e => by
      obtain ⟨cs', hcs⟩ := hrow g e.symm
      rw [hg] at hcs
      injection hcs with h
      injection h with _ h
      exact absurd h (by decide)
    rw [heap_setCell_other _ _ _ _ hgv, h3.block g (Nat.lt_of_lt_of_le (row_lt hg) (by simp)) hgr, heap_alloc_old _ _ (row_lt hg)]
    exact hg
  · exact (hb1.trans ((Below.refl _ _).grown h3 hb1.size fun k hk => (World.ownsRow.lt ho k hk).1)).setCell hv _

set_option maxRecDepth 100000 in
set_option maxHeartbeats 1600000 in
theorem flat_teller (W0 : World) (vb : Nat) : Teller W0 56 ⟨vb, 0, none⟩ (FlatInv W0 vb) := by
  refine ⟨fun T w w' ⟨hv, a, n, c, hx, hn, ho⟩ hs => ⟨hv, a, n, c, hs.2 vb _ hx (not_rest (by decide)), hn, own_of_block ho fun g hg => ?_⟩, fun T w line deep hI hb hl _ => ?_⟩
  · obtain ⟨ad, rfl⟩ : ∃ ad, a = some ad := by cases a with
      | none => cases hg
      | some ad => exact ⟨ad, rfl⟩
    have := own_block hg ho
    rw [this] at ho
    obtain ⟨cs, hcs⟩ := own_heap ho
    rw [hcs]
    exact hs.2 g _ hcs (not_rest (by decide))
  · obtain ⟨hv, a, n, c, hx, hn, ho⟩ := hI
    have HX := Lib.hid (as_value (fstep (ty := 54) (line := line) (deep := deep) hv hx hn ho hb hl))
    have e0 : w.cell? ⟨vb, 0, none⟩ = some (.slice a n c) := by rw [Lib.cell_of_heap hx]; rfl
    clear hx ho hb hl hn
    go_enter Tryd.func56, Tryd.ntmps56
    go_wp2_with (at_builtin; refine wpList_append_ex rfl (.tmp 5) (.tmp 7) 54 rfl _ HX.out ?_; rintro v' w3 ⟨b5, n5, c5, rfl, hp⟩; obtain ⟨v8, hv8⟩ := Option.ne_none_iff_exists'.1 hp.1; have hf8 := hp.2.1; have HP := Lib.hid hp.2.2; clear hp)
    go_end0
    exact ⟨rfl, HP.out.1, HP.out.2.1, HP.out.2.2⟩

def DeepInv (W0 : World) (vb : Nat) (T : List (Int × Nat)) (w : World) : Prop :=
  W0.heap.size ≤ vb ∧ mxD T 0 ≤ 1000000 ∧ w.heap[vb]? = some (.cells #[.int .i64 ((mxD T 0 : Nat) : Int)] 3 (0, 0))

theorem deep_done {W0 w : World} {vb m z deep : Nat} {T : List (Int × Nat)} {line : Int} (hv : W0.heap.size ≤ vb) (hx : w.heap[vb]? = some (.cells #[.int .i64 (m : Int)] 3 (0, 0))) (hb : Below W0.heap.size W0 w) (hm : mxD T 0 = m) (hz : z = max m deep) (hz2 : z ≤ 1000000) :
    TellP W0 w (DeepInv W0 vb (T ++ [(line, deep)])) (.returned (.tuple #[])) (w.setCell ⟨vb, 0, none⟩ (.int .i64 (z : Int))) := by
  have e : mxD (T ++ [(line, deep)]) 0 = z := by rw [mxD_snoc, hm, hz]
  refine ⟨rfl, ⟨hv, by rw [e]; exact hz2, by rw [e]; exact heap_setCell_same w vb 0 _ _ _ hx⟩, ⟨by simp [World.setCell], fun g cs hg => ?_⟩, hb.setCell hv _⟩
  rw [heap_setCell_other _ _ _ _ (fun e => ?_)]
  · exact hg
  · have e2 : g = vb := e
    rw [e2, hx] at hg
    injection hg with h
    injection h with _ h
    exact absurd h (by decide)

set_option maxRecDepth 100000 in
set_option maxHeartbeats 1600000 in
theorem deep_teller (W0 : World) (vb : Nat) : Teller W0 57 ⟨vb, 0, none⟩ (DeepInv W0 vb) := by
  refine ⟨fun T w w' ⟨hv, hm, hx⟩ hs => ⟨hv, hm, hs.2 vb _ hx (not_rest (by decide))⟩, fun T w line deep hI hb _ hd => ?_⟩
  obtain ⟨hv, hm, hx⟩ := hI
  have e0 : w.cell? ⟨vb, 0, none⟩ = some (.int .i64 ((mxD T 0 : Nat) : Int)) := by rw [Lib.cell_of_heap hx]; rfl
  have f0 : w.frozen? ⟨vb, 0, none⟩ = false := frozen_of_row w vb 0 _ _ hx
  obtain ⟨m, hmm⟩ : ∃ m, mxD T 0 = m := ⟨_, rfl⟩
  rw [hmm] at e0 hm hx
  have hmx : max (m : Int) (deep : Int) = ((max m deep : Nat) : Int) := by omega
  have HX := Lib.hid hx
  have HB := Lib.hid hb
  have HM := Lib.hid hmm
  clear hx hb hmm
  go_enter Tryd.func57, Tryd.ntmps57
  go_wp2
  all_goals go_end0
  · exact deep_done hv HX.out HB.out HM.out (by omega) (by omega)
  · exact deep_done hv HX.out HB.out HM.out (by omega) (by omega)

set_option maxRecDepth 100000 in
set_option maxHeartbeats 1600000 in
theorem gflat_any {d : Nat} {l : List Itm} {v : Value} {w : World} (h : ItsAt d l v w) (hd : d ≤ 800000) (hl : (flatIts l).length ≤ 17592186044416) : Calls Tryd.prog 30 #[v] w (FlatPost w (flatIts l)) := by
  have hmf : ∀ (fn : Fn) (first cap : Array Value) (w : World), (Instr.makeFunc fn first cap).run Tryd.prog w = .ok (.func fn first cap) w := fun _ _ _ _ => rfl
  have hA := heap_alloc_new w (.cells #[.slice none 0 0] 54)
  have HE : Hid (Calls Tryd.prog 55 #[v, .func (.func 56) #[] #[.pointer (some ⟨w.heap.size, 0, none⟩)]] (w.alloc (.cells #[.slice none 0 0] 54)) (EachFP w (FlatInv w w.heap.size (evIts 0 l)))) := Lib.hid (by
    refine eachF_any (flat_teller w w.heap.size) ((Below.refl _ _).alloc (Nat.le_refl _) _) h hd ⟨Nat.le_refl _, none, 0, 0, hA, rfl, ⟨rfl, .inl ⟨rfl, rfl⟩⟩⟩ ?_
    rw [← ev_flatIts 0 l, List.length_map] at hl
    exact hl)
  clear hA h hd hl
  go_enter Tryd.func30, Tryd.ntmps30
  go_wp2_with (go_at_call 55; (with_reducible refine HE.out.mono ?_); rintro e w1 ⟨rfl, ⟨-, a, n, c, hx, hn, ho⟩, hb⟩; have HO := Lib.hid ho; have HB := Lib.hid hb; have HN := Lib.hid hn; (have e0 : w1.cell? ⟨w.heap.size, 0, none⟩ = some (.slice a n c) := (by rw [Lib.cell_of_heap hx]; rfl)); clear hx ho hb hn)
  go_ret
  have ho := HO.out
  rw [ev_flatIts] at ho
  exact ⟨a, n, c, rfl, by rw [HN.out, ← ev_flatIts 0 l, List.length_map], ho, HB.out⟩

set_option maxRecDepth 100000 in
set_option maxHeartbeats 1600000 in
theorem gdepth_any {d : Nat} {l : List Itm} {v : Value} {w : World} (h : ItsAt d l v w) (hd : d ≤ 800000) (hl : (flatIts l).length ≤ 17592186044416) : Calls Tryd.prog 32 #[v] w (IntNew ((deepF d l : Nat) : Int) w) := by
  have hmf : ∀ (fn : Fn) (first cap : Array Value) (w : World), (Instr.makeFunc fn first cap).run Tryd.prog w = .ok (.func fn first cap) w := fun _ _ _ _ => rfl
  have hA := heap_alloc_new w (.cells #[.int .i64 0] 3)
  have HF : Hid (mxD (evIts 0 l) 0 = deepF d l) := Lib.hid (mx_deep (its_fits d l v w h))
  have HE : Hid (Calls Tryd.prog 55 #[v, .func (.func 57) #[] #[.pointer (some ⟨w.heap.size, 0, none⟩)]] (w.alloc (.cells #[.int .i64 0] 3)) (EachDP w (DeepInv w w.heap.size (evIts 0 l)))) := Lib.hid (by
    refine eachD_any (deep_teller w w.heap.size) ((Below.refl _ _).alloc (Nat.le_refl _) _) h hd ⟨Nat.le_refl _, Nat.zero_le _, hA⟩ ?_
    rw [← ev_flatIts 0 l, List.length_map] at hl
    exact hl)
  clear hA h hd hl
  go_enter Tryd.func32, Tryd.ntmps32
  go_wp2_with (go_at_call 55; (with_reducible refine HE.out.mono ?_); rintro e w1 ⟨rfl, ⟨-, -, hx⟩, hb⟩; have HB := Lib.hid hb; (have e0 : w1.cell? ⟨w.heap.size, 0, none⟩ = some (.int .i64 ((mxD (evIts 0 l) 0 : Nat) : Int)) := (by rw [Lib.cell_of_heap hx]; rfl)); clear hx hb)
  go_ret
  exact int_new (by rw [HF.out]) HB.out

end Go.Proofs.YtlnlpahmfpjjdaaDoor

/-
  lines of the law: a text's lines as the program's.
-/
namespace Go.Proofs.YtlnlpahmfpjjdaaDoor
open Go.RowKit

theorem Tryd.infoLLine : (Tryd.prog.info? 61).map (fun i => (i.zero, i.size, i.bytes)) = some (some (.agg #[.slice none 0 0, .int .i64 0, .int .i64 0, .bool false]), 4, 48) := by kernel_rfl

theorem li_ex {W w : World} {v sv : Value} {n : Nat} {xs : List Value} {ty : TypeId} {p : Value × Ln} (h : Up W 61 4 v n xs w) (hs : Src w sv 1 4 (lcell p)) (hp : p.1.oneCell' = true) (hn : n ≤ 500000) :
    ∃ b n' cap w', (Builtin.append_ #[45, 45] ty #[v, sv]).run Tryd.prog w = .ok (.slice (some ⟨b, 0, none⟩) n' cap) w' ∧ n' = n + 1 ∧ Up W 61 4 (.slice (some ⟨b, 0, none⟩) n' cap) n' (xs ++ lcell p) w' := by
  obtain ⟨i0, hi, hz0, hz1, hz2⟩ := info_parts Tryd.infoLLine
  obtain ⟨v', w', hr, h2⟩ := app_up (ty := ty) Tryd.underlying45 hi hz0 hz1 hz2 rfl (by decide) (by decide) h hs (by intro u hu; simp only [lcell, List.mem_cons, List.not_mem_nil, or_false] at hu; rcases hu with rfl | rfl | rfl | rfl <;> first | exact hp | rfl) (by omega)
  obtain ⟨b, cap, hv⟩ := append_form h2.1 (by omega)
  subst hv
  exact ⟨b, _, cap, w', hr, rfl, h2⟩

theorem Up.drewL {W w : World} {e : TypeId} {size : Nat} {v : Value} {n : Nat} {xs : List Value} (h : Up W e size v n xs w) : Up W e size v n xs w.drew := Up.over h (Below.refl _ _).drew

def LiRel (w : World) (P : List (Value × Ln)) (o i : Value) (wr : World) : Prop :=
  ∃ (k : Nat) (ob : Option Addr) (on oc : Nat), i = .int .i64 (k : Int) ∧ k ≤ P.length ∧ o = .slice ob on oc ∧ on = k ∧ Up w 61 4 (.slice ob on oc) on (lcells (P.take k)) wr
/-- Lines, new, as the program's. -/
def LiPost (W : World) (lines : List Ln) (e : Ending) (w' : World) : Prop :=
  ∃ (a : Option Addr) (n cap : Nat), e = .returned (.slice a n cap) ∧ n = lines.length ∧ LRow W ⟨#[102]⟩ 61 (.slice a n cap) lines w'

theorem take_getL {P : List (Value × Ln)} {k : Nat} {p : Value × Ln} (h : P[k]? = some p) : P.take (k + 1) = P.take k ++ [p] := by
  rw [List.take_add_one, h]
  rfl

theorem li_on {w wr : World} {P : List (Value × Ln)} {k b n cap : Nat} {p : Value × Ln} {i : Int} (hp : P[k]? = some p) (hn : n = k + 1) (h : Up w 61 4 (.slice (some ⟨b, 0, none⟩) n cap) n (lcells (P.take k) ++ lcell p) wr) (hi : i = ((k + 1 : Nat) : Int)) : LiRel w P (.slice (some ⟨b, 0, none⟩) n cap) (.int .i64 i) wr := by
  subst hi
  exact ⟨k + 1, _, n, cap, rfl, (List.getElem?_eq_some_iff.1 hp).1, rfl, hn, by rw [take_getL hp, lcells_snoc]; exact h⟩

theorem li_done {W w wr : World} {T : TypeId} {la : Option Addr} {ln lc : Nat} {P : List (Value × Ln)} {lines : List Ln} (hP : P.map Prod.snd = lines) (h1 : Up W T 4 (.slice la ln lc) P.length (lcells P) w) (h2 : ∀ p ∈ P, Up W 36 8 p.1 p.2.toks.length (tcells ⟨#[102]⟩ p.2.toks) w)
    {ob : Option Addr} {on oc : Nat} (hon : on = P.length) (hU : Up w 61 4 (.slice ob on oc) on (lcells P) wr) : LiPost W lines (.returned (.slice ob on oc)) wr := by
  refine ⟨ob, on, oc, rfl, by rw [hon, ← hP, List.length_map], P, hP, ⟨row_low (hon ▸ hU.1) h1.2.size, below_up h1.2 hU.2⟩, fun p hp => Up.over (h2 p hp) hU.2⟩

theorem run_few (L : List Rn) (sz : Nat) : ∀ (m i : Nat) (a : Acc), (runA L sz m i a).lines.length ≤ a.lines.length + m
  | 0, i, a => Nat.le_refl _
  | m + 1, i, a => by
    unfold runA
    split
    · have h := run_few L sz m (i + lenA L i (item ((bytesOf L).drop i))) (stepA L sz i a (item ((bytesOf L).drop i)))
      have hs : (stepA L sz i a (item ((bytesOf L).drop i))).lines.length ≤ a.lines.length + 1 := by
        cases item ((bytesOf L).drop i) with
        | nl => simp [stepA, endA]
        | gap n => simp [stepA]
        | opn => simp [stepA, endA, tellA]
        | tk k n =>
          have e : (takeA L a k i n).lines = a.lines := by
            unfold takeA pushA
            split <;> rfl
          simp [stepA, e]
      omega
    · omega

set_option maxRecDepth 100000 in
set_option maxHeartbeats 6400000 in
theorem lines8_any (s : ByteArray) (W : World) (hs : s.size ≤ 100000) : Calls Tryd.prog 24 #[.string s] W (LiPost W (linesA (charsL s.data.toList) s.size).lines) := by
  have HL := Lib.hid (rlines_any ⟨#[102]⟩ s W hs)
  have hfew : (linesA (charsL s.data.toList) s.size).lines.length ≤ 500000 := by
    obtain ⟨n, hn, hn2⟩ := charsL_few s.data.toList
    rw [len_byte] at hn2
    have := run_few (charsL s.data.toList) s.size (charsL s.data.toList).length 0 acc0
    unfold linesA
    have e : acc0.lines.length = 0 := rfl
    omega
  obtain ⟨A, hA⟩ : ∃ A, linesA (charsL s.data.toList) s.size = A := ⟨_, rfl⟩
  rw [hA] at HL hfew ⊢
  clear hA hs
  go_enter Tryd.func24, Tryd.ntmps24
  go_wp2_with (go_at_call 22; (with_reducible refine HL.out.mono ?_); rintro e w ⟨la, n0, lc, da, m, dc, rfl, hn0, -, ⟨P, hPm, h1, h2⟩, -⟩; (have hPl : P.length = n0 := (by rw [hn0, ← hPm, List.length_map])); obtain rfl := hPl; have HPM := Lib.hid hPm; have H1 := Lib.hid h1; have H2 := Lib.hid h2; (have hl : P.length ≤ 500000 := (by rw [hn0]; exact hfew)); clear hn0 hPm h1 h2)
  obtain ⟨a, cap, hv, hc1, hc2, hcell⟩ := row_form H1.out.1
  simp only [Value.slice.injEq, true_and] at hv
  obtain ⟨rfl, rfl⟩ := hv
  have hP : ∀ p ∈ P, ∃ ta tn tc, p.1 = .slice ta tn tc := fun p hp => by
    obtain ⟨ta, tc, hv, -⟩ := row_form (H2.out p hp).1
    exact ⟨ta, _, tc, hv⟩
  have HC := Lib.hid hcell
  have HP := Lib.hid hP
  unfold maxLen at hc2
  have HS0 : Hid (LiRel w P (.slice none 0 0) (.int .i64 0) w) := Lib.hid ⟨0, none, 0, 0, rfl, Nat.zero_le _, rfl, rfl, up_nil w _ 4⟩
  clear hcell hP hfew
  go_loopw [5, 6] (fun o i wr => LiRel w P o i wr) (fun _ i _ => P.length - (intOf i).toNat)
  case atStart => exact HS0.out
  case round =>
    obtain ⟨k, ob, on, oc, rfl, hk, rfl, hon, hU⟩ := hrel
    have HU := Lib.hid hU
    have HON := Lib.hid hon
    have hon2 : on ≤ 500000 := by omega
    clear hU hon
    by_cases hlt : k < P.length
    · obtain ⟨⟨pv, ln⟩, hp⟩ : ∃ p, P[k]? = some p := ⟨_, List.getElem?_eq_getElem hlt⟩
      obtain ⟨ta, tn, tc, hpv⟩ := HP.out _ (List.mem_of_getElem? hp)
      simp only at hpv
      subst hpv
      have hg := fun j (hj : j < 4) => flat_get (f := lcell) (n := 4) (fun _ => rfl) P k _ hp j hj
      obtain ⟨g, hga, hgl, d0⟩ := HC.out (k * 4 + 0) _ ((hg 0 (by omega)).trans rfl)
      obtain ⟨g1, hga1, -, d1⟩ := HC.out (k * 4 + 1) _ ((hg 1 (by omega)).trans rfl)
      obtain ⟨g2, hga2, -, d2⟩ := HC.out (k * 4 + 2) _ ((hg 2 (by omega)).trans rfl)
      obtain ⟨g3, hga3, -, d3⟩ := HC.out (k * 4 + 3) _ ((hg 3 (by omega)).trans rfl)
      subst hga
      simp only [Option.some.injEq, Addr.mk.injEq, and_true] at hga1 hga2 hga3
      subst hga1 hga2 hga3
      have e0 : wr.cell? ⟨g, k * 4, none⟩ = some (.slice ta tn tc) := bcell HU.out.2 d0 hgl
      have e1 : wr.cell? ⟨g, k * 4 + 1, none⟩ = some (.int .i64 (ln.f : Int)) := bcell HU.out.2 d1 hgl
      have e2 : wr.cell? ⟨g, k * 4 + 2, none⟩ = some (.int .i64 (ln.t : Int)) := bcell HU.out.2 d2 hgl
      have e3 : wr.cell? ⟨g, k * 4 + 3, none⟩ = some (.bool ln.o) := bcell HU.out.2 d3 hgl
      have hki : (k : Int) < (P.length : Int) := by omega
      have hk0 : (0 : Int) ≤ (k : Int) := by omega
      have HPK := Lib.hid hp
      clear hg d0 d1 d2 d3 hp
      go_wp2
      go_region_law (first
        | (refine step_ex rfl (.tmp 18) (.tmp 40) 45 rfl _ _ _ rfl rfl (li_ex (W := w) (v := .slice ob on oc) (n := on) (xs := lcells (P.take k)) (p := (.slice ta tn tc, ln)) ?_ ?_ rfl hon2) ?_
           · (repeat first | (with_reducible apply Up.drewL) | (with_reducible apply Up.alloc)); (with_reducible exact HU.out)
           · exact src_row (heap_drew (heap_alloc_new _ _)) rfl rfl
           intro b4 n4 cap4 w4 hp4
           have HP4 := Lib.hid hp4.2
           have HN4 := Lib.hid hp4.1
           clear hp4))
      all_goals go_wp2
      all_goals go_roundw
      all_goals first
        | exact li_on HPK.out (by rw [HN4.out, HON.out]) HP4.out (by simp)
        | (simp [intOf]; omega)
    · have hki : ¬ (k : Int) < (P.length : Int) := by omega
      go_wp2
      go_ret
      have hU := HU.out
      rw [List.take_of_length_le (by omega)] at hU
      exact li_done HPM.out H1.out H2.out (by have := HON.out; omega) hU

end Go.Proofs.YtlnlpahmfpjjdaaDoor
