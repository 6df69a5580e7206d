/-
  Texts of the proof, put together: GcEachL, GcTell.
-/
import Derived.Test.YtlnlpahmfpjjdaaDoorG02
import Derived.Test.YtlnlpahmfpjjdaaDoorG17
import Derived.Test.YtlnlpahmfpjjdaaDoorG18
import Derived.Test.YtlnlpahmfpjjdaaDoorG22

/-
  Items gone through with a stack: what is told, in order, and how deep; over lists, and the stack's row.
-/
namespace Go.Proofs.YtlnlpahmfpjjdaaDoor
open Go.RowKit

mutual
def Itm.evT (dp : Nat) : Itm → List (Int × Nat)
  | .mk _ line [] => [(line, dp)]
  | .mk _ _ (a :: r) => evArm (dp + 1) a ++ evArms (dp + 1) r
def evArm (dp : Nat) : Int × List Itm → List (Int × Nat)
  | (l, its) => (l, dp) :: evIts dp its
def evArms (dp : Nat) : List (Int × List Itm) → List (Int × Nat)
  | [] => []
  | a :: r => evArm dp a ++ evArms dp r
def evIts (dp : Nat) : List Itm → List (Int × Nat)
  | [] => []
  | it :: r => it.evT dp ++ evIts dp r
end
mutual
def Itm.sz : Itm → Nat
  | .mk _ _ qs => 2 + szArms qs
def szArm : Int × List Itm → Nat
  | (_, its) => 1 + szIts its
def szArms : List (Int × List Itm) → Nat
  | [] => 0
  | a :: r => szArm a + szArms r
def szIts : List Itm → Nat
  | [] => 0
  | it :: r => it.sz + szIts r
end

/-- A frame: what of its arm is yet to be gone through, then its arms. -/
structure Rs where
  L : List Itm
  iv : Value
  A : List (Int × List Itm)
  av : Value
def rem : List Rs → List (Int × Nat)
  | [] => []
  | f :: r => evIts r.length f.L ++ evArms r.length f.A ++ rem r
def mu8 : List Rs → Nat
  | [] => 0
  | f :: r => szIts f.L + szArms f.A + 1 + mu8 r
def zcell (f : Rs) : List Value := [f.iv, f.av]
def zcells (S : List Rs) : List Value := S.reverse.flatMap zcell
theorem zcells_cons (f : Rs) (S : List Rs) : zcells (f :: S) = zcells S ++ zcell f := by simp [zcells]
theorem zcells_len (S : List Rs) : (zcells S).length = S.length * 2 := by
  unfold zcells
  rw [flat_len (n := 2) (fun _ => rfl), List.length_reverse]

theorem ev_leaf {k l : Int} {dp : Nat} : (Itm.mk k l []).evT dp = [(l, dp)] := by rw [Itm.evT]
theorem ev_cond {k l : Int} {qs : List (Int × List Itm)} {dp : Nat} (h : qs ≠ []) : (Itm.mk k l qs).evT dp = evArms (dp + 1) qs := by
  cases qs with
  | nil => exact absurd rfl h
  | cons a r => rw [Itm.evT, evArms]

theorem itm_eta (it : Itm) : it = .mk it.k it.line it.arms := by cases it; rfl
theorem rem_leaf {it : Itm} {L : List Itm} {iv iv' av : Value} {A : List (Int × List Itm)} {r : List Rs} (h : it.arms = []) : rem (⟨it :: L, iv, A, av⟩ :: r) = (it.line, r.length) :: rem (⟨L, iv', A, av⟩ :: r) := by
  rw [itm_eta it, h]
  simp [rem, evIts, ev_leaf, Itm.line]
theorem rem_cond {it : Itm} {L : List Itm} {iv iv' av av' : Value} {A : List (Int × List Itm)} {r : List Rs} (h : it.arms ≠ []) : rem (⟨it :: L, iv, A, av⟩ :: r) = rem (⟨[], .slice none 0 0, it.arms, av'⟩ :: ⟨L, iv', A, av⟩ :: r) := by
  obtain ⟨k, l, qs⟩ := it
  have h' : qs ≠ [] := h
  simp [rem, evIts, ev_cond h', Itm.arms]
theorem rem_arm {a : Int × List Itm} {A : List (Int × List Itm)} {iv iv' av av' : Value} {r : List Rs} : rem (⟨[], iv, a :: A, av⟩ :: r) = (a.1, r.length) :: rem (⟨a.2, iv', A, av'⟩ :: r) := by
  obtain ⟨l, its⟩ := a
  simp [rem, evIts, evArms, evArm]
theorem rem_pop {iv av : Value} {r : List Rs} : rem (⟨[], iv, [], av⟩ :: r) = rem r := by simp [rem, evIts, evArms]
theorem mu_leaf {it : Itm} {L : List Itm} {iv iv' av : Value} {A : List (Int × List Itm)} {r : List Rs} : mu8 (⟨L, iv', A, av⟩ :: r) < mu8 (⟨it :: L, iv, A, av⟩ :: r) := by
  rw [itm_eta it]
  simp only [mu8, szIts, Itm.sz]
  omega
theorem mu_cond {it : Itm} {L : List Itm} {iv iv' av av' : Value} {A : List (Int × List Itm)} {r : List Rs} : mu8 (⟨[], .slice none 0 0, it.arms, av'⟩ :: ⟨L, iv', A, av⟩ :: r) < mu8 (⟨it :: L, iv, A, av⟩ :: r) := by
  rw [itm_eta it]
  simp only [mu8, szIts, Itm.sz, Itm.arms]
  omega
theorem mu_arm {a : Int × List Itm} {A : List (Int × List Itm)} {iv iv' av av' : Value} {r : List Rs} : mu8 (⟨a.2, iv', A, av'⟩ :: r) < mu8 (⟨[], iv, a :: A, av⟩ :: r) := by
  obtain ⟨l, its⟩ := a
  simp only [mu8, szIts, szArms, szArm]
  omega
theorem mu_pop {iv av : Value} {r : List Rs} : mu8 r < mu8 (⟨[], iv, [], av⟩ :: r) := by
  simp only [mu8]
  omega

/-- The frames, each one less deep. -/
def FsAt (W : World) : Nat → List Rs → Prop
  | _, [] => True
  | e, f :: r => (ItsAt e f.L f.iv W ∧ ArmsOf (ItsAt e) f.A f.av W) ∧ FsAt W (e + 1) r

/-- A row's tail. -/
theorem ItsOf.tail {R : RelI} {it : Itm} {L : List Itm} {g o o' n cap : Nat} {W : World} (h : ItsOf R (it :: L) (.slice (some ⟨g, o, none⟩) (n + 1) (cap + 1)) W) (ho : n = 0 ∨ o' = o + 3) : ItsOf R L (.slice (some ⟨g, o', none⟩) n cap) W := by
  obtain ⟨a, c, hv, h1, h2, h3⟩ := h
  simp only [Value.slice.injEq, List.length_cons] at hv h1
  obtain ⟨rfl, hn, rfl⟩ := hv
  refine ⟨_, cap, by rw [show n = L.length from by omega], by omega, by unfold maxLen at h2 ⊢; omega, fun k x hk => ?_⟩
  have hlt := (List.getElem?_eq_some_iff.1 hk).1
  obtain ⟨g2, o2, ha, hg, av, hi, hr⟩ := h3 (k + 1) x (by simpa using hk)
  simp only [Option.some.injEq, Addr.mk.injEq, and_true] at ha
  obtain ⟨rfl, rfl⟩ := ha
  obtain rfl : o' = o + 3 := ho.resolve_left (by omega)
  refine ⟨g, o + 3, rfl, hg, av, ?_, hr⟩
  rw [show o + 3 + k * 3 = o + (k + 1) * 3 from by omega]
  exact hi
theorem ArmsOf.tail {R : RelI} {a : Int × List Itm} {A : List (Int × List Itm)} {g o o' n cap : Nat} {W : World} (h : ArmsOf R (a :: A) (.slice (some ⟨g, o, none⟩) (n + 1) (cap + 1)) W) (ho : n = 0 ∨ o' = o + 2) : ArmsOf R A (.slice (some ⟨g, o', none⟩) n cap) W := by
  obtain ⟨b, c, hv, h1, h2, h3⟩ := h
  simp only [Value.slice.injEq, List.length_cons] at hv h1
  obtain ⟨rfl, hn, rfl⟩ := hv
  refine ⟨_, cap, by rw [show n = A.length from by omega], by omega, by unfold maxLen at h2 ⊢; omega, fun k x hk => ?_⟩
  have hlt := (List.getElem?_eq_some_iff.1 hk).1
  obtain ⟨g2, o2, ha, hg, iv, hi, hr⟩ := h3 (k + 1) x (by simpa using hk)
  simp only [Option.some.injEq, Addr.mk.injEq, and_true] at ha
  obtain ⟨rfl, rfl⟩ := ha
  obtain rfl : o' = o + 2 := ho.resolve_left (by omega)
  refine ⟨g, o + 2, rfl, hg, iv, ?_, hr⟩
  rw [show o + 2 + k * 2 = o + (k + 1) * 2 from by omega]
  exact hi

/-- l[1:] of items, of arms. -/
theorem slice1_its (g o n cap : Nat) (h : n ≤ cap) (hc : cap + 1 ≤ maxLen) : ∃ o', (n = 0 ∨ o' = o + 3) ∧ ∀ w, (Instr.slice 42 (.slice (some ⟨g, o, none⟩) (n + 1) (cap + 1)) (some (.int .i64 1)) none none).run Tryd.prog w = .ok (.slice (some ⟨g, o', none⟩) n cap) w := by
  refine ⟨if cap = 0 then o else o + 3, ?_, fun w => ?_⟩
  · split
    · left; omega
    · right; rfl
  · unfold maxLen at hc
    have a1 : (1 : Int) ≤ ((n + 1 : Nat) : Int) := by omega
    have a2 : (1 : Int) ≤ ((cap + 1 : Nat) : Int) := by omega
    have a3 : ((n + 1 : Nat) : Int) ≤ ((cap + 1 : Nat) : Int) := by omega
    have a5 : Tryd.prog.cellsOf 66 = 3 := by kernel_rfl
    by_cases hc0 : cap = 0
    · obtain rfl : n = 0 := by omega
      subst hc0
      simp [Instr.slice, run_underlying Tryd.underlying42, Instr.sliceBounds, run_sliceBound, Addr.add, *]
    · have hc' : (cap == 0) = false := by simpa using hc0
      obtain ⟨m, hm⟩ : ∃ m, n + 1 = m := ⟨_, rfl⟩
      obtain ⟨q, hq⟩ : ∃ q, cap + 1 = q := ⟨_, rfl⟩
      rw [hm] at a1 a3 ⊢
      rw [hq] at a2 a3 ⊢
      have e1 : n = m - 1 := by omega
      have e2 : cap = q - 1 := by omega
      have hq1 : ¬ q = 1 := by omega
      rw [if_neg hc0, e1, e2]
      clear hm hq e1 e2 hc' hc0 h hc
      simp [Instr.slice, run_underlying Tryd.underlying42, Instr.sliceBounds, run_sliceBound, Addr.add, *]

theorem slice1_arms (g o n cap : Nat) (h : n ≤ cap) (hc : cap + 1 ≤ maxLen) : ∃ o', (n = 0 ∨ o' = o + 2) ∧ ∀ w, (Instr.slice 64 (.slice (some ⟨g, o, none⟩) (n + 1) (cap + 1)) (some (.int .i64 1)) none none).run Tryd.prog w = .ok (.slice (some ⟨g, o', none⟩) n cap) w := by
  refine ⟨if cap = 0 then o else o + 2, ?_, fun w => ?_⟩
  · split
    · left; omega
    · right; rfl
  · unfold maxLen at hc
    have a1 : (1 : Int) ≤ ((n + 1 : Nat) : Int) := by omega
    have a2 : (1 : Int) ≤ ((cap + 1 : Nat) : Int) := by omega
    have a3 : ((n + 1 : Nat) : Int) ≤ ((cap + 1 : Nat) : Int) := by omega
    have a5 : Tryd.prog.cellsOf 68 = 2 := by kernel_rfl
    by_cases hc0 : cap = 0
    · obtain rfl : n = 0 := by omega
      subst hc0
      simp [Instr.slice, run_underlying Tryd.underlying64, Instr.sliceBounds, run_sliceBound, Addr.add, *]
    · have hc' : (cap == 0) = false := by simpa using hc0
      obtain ⟨m, hm⟩ : ∃ m, n + 1 = m := ⟨_, rfl⟩
      obtain ⟨q, hq⟩ : ∃ q, cap + 1 = q := ⟨_, rfl⟩
      rw [hm] at a1 a3 ⊢
      rw [hq] at a2 a3 ⊢
      have e1 : n = m - 1 := by omega
      have e2 : cap = q - 1 := by omega
      have hq1 : ¬ q = 1 := by omega
      rw [if_neg hc0, e1, e2]
      clear hm hq e1 e2 hc' hc0 h hc
      simp [Instr.slice, run_underlying Tryd.underlying64, Instr.sliceBounds, run_sliceBound, Addr.add, *]

end Go.Proofs.YtlnlpahmfpjjdaaDoor

/-
  What is told of each line, and the stack that it is gone through with: memory.
-/
namespace Go.Proofs.YtlnlpahmfpjjdaaDoor
open Go.RowKit

theorem Tryd.infoRest : (Tryd.prog.info? 127).map (fun i => (i.zero, i.size, i.bytes)) = some (some (.agg #[.slice none 0 0, .slice none 0 0]), 2, 48) := by kernel_rfl

/-- Blocks that are no stack's are as they were. -/
def StayR (w w' : World) : Prop := w.heap.size ≤ w'.heap.size ∧ ∀ (g : Nat) (o : Obj), w.heap[g]? = some o → (∀ cs : Array Value, o ≠ Obj.cells cs 127 (0, 0)) → w'.heap[g]? = some o
/-- Stacks are as they were. -/
def KeepR (w w' : World) : Prop := w.heap.size ≤ w'.heap.size ∧ ∀ (g : Nat) (cs : Array Value), w.heap[g]? = some (Obj.cells cs 127 (0, 0)) → w'.heap[g]? = some (Obj.cells cs 127 (0, 0))
theorem stay_below {w w' : World} (b : Below w.heap.size w w') : StayR w w' := ⟨b.size, fun g _ h _ => (b.block g (row_lt h)).trans h⟩
theorem StayR.trans {w w' w'' : World} (h : StayR w w') (h' : StayR w' w'') : StayR w w'' := ⟨Nat.le_trans h.1 h'.1, fun g o ho hne => h'.2 g o (h.2 g o ho hne) hne⟩
theorem stay_set {w : World} {g i : Nat} {cs : Array Value} (h : w.heap[g]? = some (.cells cs 127 (0, 0))) (u : Value) : StayR w (w.setCell ⟨g, i, none⟩ u) :=
  ⟨by simp [World.setCell], fun k o ho hne => (heap_setCell_other w ⟨g, i, none⟩ k u fun e => by
    subst e
    rw [h] at ho
    exact hne cs (Option.some.inj ho).symm).trans ho⟩
theorem own_heap {B : Nat} {w : World} {e : TypeId} {size n cap g : Nat} {xs : List Value} (h : w.ownsRow B e size (.slice (some ⟨g, 0, none⟩) n cap) n xs) : ∃ cs, w.heap[g]? = some (.cells cs e (0, 0)) := by
  obtain ⟨-, ⟨hv, -⟩ | ⟨g', c, cur, hv, -, hh, -⟩⟩ := h
  · cases hv
  · simp only [Value.slice.injEq, Option.some.injEq, Addr.mk.injEq, and_true, true_and] at hv
    rw [hv.1]
    exact ⟨cur, hh⟩
theorem keep_row {B : Nat} {w w' : World} {size n cap g : Nat} {xs : List Value} (h : w.ownsRow B 127 size (.slice (some ⟨g, 0, none⟩) n cap) n xs) (k : KeepR w w') : w'.ownsRow B 127 size (.slice (some ⟨g, 0, none⟩) n cap) n xs :=
  own_of_block h fun g' hg' => by
    simp only [Value.ownBlock, Option.some.injEq] at hg'
    subst hg'
    obtain ⟨cs, hcs⟩ := own_heap h
    rw [hcs]
    exact k.2 g cs hcs

def TellP (W0 w : World) (I : World → Prop) (e : Ending) (w' : World) : Prop := e = .returned (.tuple #[]) ∧ I w' ∧ KeepR w w' ∧ Below W0.heap.size W0 w'
/-- What is asked of who is told. -/
structure Teller (W0 : World) (K : Nat) (p : Addr) (Inv : List (Int × Nat) → World → Prop) : Prop where
  stay : ∀ T w w', Inv T w → StayR w w' → Inv T w'
  call : ∀ T w line deep, Inv T w → Below W0.heap.size W0 w → T.length + 1 ≤ 17592186044416 → deep ≤ 1000000 → Calls Tryd.prog K #[.int .i64 line, .int .i64 (deep : Nat), .pointer (some p)] w (TellP W0 w (Inv (T ++ [(line, deep)])))

theorem ItsAt.head : ∀ {e : Nat} {it : Itm} {L : List Itm} {a : Option Addr} {n cap : Nat} {W : World}, ItsAt e (it :: L) (.slice a n cap) W → ∃ g o n' cap' aa an ac, a = some ⟨g, o, none⟩ ∧ n = n' + 1 ∧ cap = cap' + 1 ∧ n' ≤ cap' ∧ cap' + 1 ≤ maxLen ∧ g < W.heap.size ∧ an = it.arms.length ∧ an ≤ ac ∧ ac ≤ maxLen ∧ ItmA it (.slice aa an ac) g o W ∧ (∀ o', (n' = 0 ∨ o' = o + 3) → ItsAt e L (.slice (some ⟨g, o', none⟩) n' cap') W) ∧ (it.arms ≠ [] → ∃ e', e = e' + 1 ∧ ArmsOf (ItsAt e') it.arms (.slice aa an ac) W) := by
  intro e it L a n cap W h
  have key : ∀ R : RelI, ItsOf R (it :: L) (.slice a n cap) W → ∃ g o n' cap' aa an ac, a = some ⟨g, o, none⟩ ∧ n = n' + 1 ∧ cap = cap' + 1 ∧ n' ≤ cap' ∧ cap' + 1 ≤ maxLen ∧ g < W.heap.size ∧ an = it.arms.length ∧ an ≤ ac ∧ ac ≤ maxLen ∧ ItmA it (.slice aa an ac) g o W ∧ (∀ o', (n' = 0 ∨ o' = o + 3) → ItsOf R L (.slice (some ⟨g, o', none⟩) n' cap') W) ∧ ArmsOf R it.arms (.slice aa an ac) W := by
    intro R h
    obtain ⟨a', n1, c1, hv, hn, hc1, hc2⟩ := h.form
    simp only [Value.slice.injEq] at hv
    obtain ⟨rfl, rfl, rfl⟩ := hv
    obtain ⟨g, o, aa, an, ac, rfl, hg, han, h1, h2, hi, hr⟩ := h.get (k := 0) (it := it) rfl
    rw [List.length_cons] at hn
    obtain ⟨n', rfl⟩ : ∃ n', n = n' + 1 := ⟨n - 1, by omega⟩
    obtain ⟨cap', rfl⟩ : ∃ cap', cap = cap' + 1 := ⟨cap - 1, by omega⟩
    exact ⟨g, o, n', cap', aa, an, ac, rfl, rfl, rfl, by omega, hc2, hg, han, h1, h2, by simpa using hi, fun o' ho => h.tail ho, hr⟩
  cases e with
  | zero =>
    obtain ⟨g, o, n', cap', aa, an, ac, h1, h2, h3, h4, h5, h6, h7, h8, h9, h10, h11, h12⟩ := key _ h
    refine ⟨g, o, n', cap', aa, an, ac, h1, h2, h3, h4, h5, h6, h7, h8, h9, h10, h11, fun hne => ?_⟩
    exact absurd (its_fits 0 _ _ _ h it List.mem_cons_self) hne
  | succ e =>
    obtain ⟨g, o, n', cap', aa, an, ac, h1, h2, h3, h4, h5, h6, h7, h8, h9, h10, h11, h12⟩ := key _ h
    exact ⟨g, o, n', cap', aa, an, ac, h1, h2, h3, h4, h5, h6, h7, h8, h9, h10, h11, fun _ => ⟨e, rfl, h12⟩⟩
theorem arms_head {e : Nat} {x : Int × List Itm} {A : List (Int × List Itm)} {a : Option Addr} {n cap : Nat} {W : World} (h : ArmsOf (ItsAt e) (x :: A) (.slice a n cap) W) : ∃ g o n' cap' ia im ic, a = some ⟨g, o, none⟩ ∧ n = n' + 1 ∧ cap = cap' + 1 ∧ n' ≤ cap' ∧ cap' + 1 ≤ maxLen ∧ g < W.heap.size ∧ im ≤ ic ∧ ic ≤ maxLen ∧ ArmA x (.slice ia im ic) g o W ∧ (∀ o', (n' = 0 ∨ o' = o + 2) → ArmsOf (ItsAt e) A (.slice (some ⟨g, o', none⟩) n' cap') W) ∧ ItsAt e x.2 (.slice ia im ic) W := by
  obtain ⟨a', n1, c1, hv, hn, hc1, hc2⟩ := h.form
  simp only [Value.slice.injEq] at hv
  obtain ⟨rfl, rfl, rfl⟩ := hv
  obtain ⟨g, o, ia, im, ic, rfl, hg, hi, hr⟩ := h.get (itsAt_form e) (j := 0) (x := x) rfl
  obtain ⟨a2, n2, c2, hv2, -, h3, h4⟩ := itsAt_form e _ _ _ hr
  simp only [Value.slice.injEq] at hv2
  obtain ⟨rfl, rfl, rfl⟩ := hv2
  rw [List.length_cons] at hn
  obtain ⟨n', rfl⟩ : ∃ n', n = n' + 1 := ⟨n - 1, by omega⟩
  obtain ⟨cap', rfl⟩ : ∃ cap', cap = cap' + 1 := ⟨cap - 1, by omega⟩
  exact ⟨g, o, n', cap', ia, im, ic, rfl, rfl, rfl, by omega, hc2, hg, h3, h4, by simpa using hi, fun o' ho => h.tail ho, hr⟩

/-- The stack's row. -/
def Stk (W0 : World) (ab n c : Nat) (S : List Rs) (w : World) : Prop := n = S.length ∧ w.ownsRow W0.heap.size 127 2 (.slice (some ⟨ab, 0, none⟩) n c) n (zcells S)
theorem Stk.top {W0 : World} {ab n c : Nat} {f : Rs} {r : List Rs} {w : World} (h : Stk W0 ab n c (f :: r) w) : w.cell? ⟨ab, r.length * 2, none⟩ = some f.iv ∧ w.cell? ⟨ab, r.length * 2 + 1, none⟩ = some f.av ∧ ab < w.heap.size ∧ n ≤ c ∧ c ≤ maxLen ∧ (∀ k, w.frozen? ⟨ab, k, none⟩ = false) ∧ n = r.length + 1 := by
  obtain ⟨hn, ho⟩ := h
  rw [List.length_cons] at hn
  have h0 := ho.cellAt (r.length * 2) (by omega)
  have h1 := ho.cellAt (r.length * 2 + 1) (by omega)
  rw [zcells_cons, List.getElem?_append_right (by rw [zcells_len]; omega), zcells_len] at h0 h1
  rw [show r.length * 2 - r.length * 2 = 0 from by omega] at h0
  rw [show r.length * 2 + 1 - r.length * 2 = 1 from by omega] at h1
  obtain ⟨a, cap, hv, k1, k2, -⟩ := row_form ho
  simp only [Value.slice.injEq, true_and] at hv
  obtain ⟨-, rfl⟩ := hv
  exact ⟨h0, h1, (World.ownsRow.lt ho ab rfl).2, k1, k2, fun k => own_freeX ho k, hn⟩
theorem Stk.set0 {W0 : World} {ab n c : Nat} {f : Rs} {r : List Rs} {w : World} (h : Stk W0 ab n c (f :: r) w) (iv : Value) (L : List Itm) : Stk W0 ab n c (⟨L, iv, f.A, f.av⟩ :: r) (w.setCell ⟨ab, r.length * 2, none⟩ iv) := by
  refine ⟨h.1, ?_⟩
  have := own_setX h.2 (r.length * 2) iv
  rw [zcells_cons, List.set_append_right _ _ (by rw [zcells_len]; omega), zcells_len, show r.length * 2 - r.length * 2 = 0 from by omega] at this
  rw [zcells_cons]
  exact this
theorem Stk.set1 {W0 : World} {ab n c : Nat} {f : Rs} {r : List Rs} {w : World} (h : Stk W0 ab n c (f :: r) w) (av : Value) (A : List (Int × List Itm)) : Stk W0 ab n c (⟨f.L, f.iv, A, av⟩ :: r) (w.setCell ⟨ab, r.length * 2 + 1, none⟩ av) := by
  refine ⟨h.1, ?_⟩
  have := own_setX h.2 (r.length * 2 + 1) av
  rw [zcells_cons, List.set_append_right _ _ (by rw [zcells_len]; omega), zcells_len, show r.length * 2 + 1 - r.length * 2 = 1 from by omega] at this
  rw [zcells_cons]
  exact this
theorem Stk.over {W0 : World} {ab n c : Nat} {S : List Rs} {w w' : World} (h : Stk W0 ab n c S w) (b : Below w.heap.size w w') : Stk W0 ab n c S w' := ⟨h.1, own_of_block h.2 fun g hg => b.block g (World.ownsRow.lt h.2 g hg).2⟩
theorem Stk.keep {W0 : World} {ab n c : Nat} {S : List Rs} {w w' : World} (h : Stk W0 ab n c S w) (k : KeepR w w') : Stk W0 ab n c S w' := ⟨h.1, keep_row h.2 k⟩
theorem Stk.pop {W0 : World} {ab n c : Nat} {f : Rs} {r : List Rs} {w : World} (h : Stk W0 ab n c (f :: r) w) : Stk W0 ab r.length c r w := by
  refine ⟨rfl, ?_⟩
  have hn : n = r.length + 1 := h.1
  have := own_shrink h.2 (m := r.length) (by omega)
  rw [zcells_cons, List.take_left' (by rw [zcells_len])] at this
  exact this
theorem Stk.stay {W0 : World} {ab n c : Nat} {S : List Rs} {w : World} (h : Stk W0 ab n c S w) (i : Nat) (u : Value) : StayR w (w.setCell ⟨ab, i, none⟩ u) := by
  obtain ⟨cs, hcs⟩ := own_heap h.2
  exact stay_set hcs u
theorem Stk.low {W0 : World} {ab n c : Nat} {S : List Rs} {w : World} (h : Stk W0 ab n c S w) : W0.heap.size ≤ ab := (World.ownsRow.lt h.2 ab rfl).1

def Pushed8 (W0 w : World) (S : List Rs) (b n c : Nat) (w' : World) : Prop := Stk W0 b n c S w' ∧ StayR w w' ∧ Below W0.heap.size W0 w'
theorem Stk.push {W0 : World} {ab n c : Nat} {S : List Rs} {w : World} {ty : TypeId} (h : Stk W0 ab n c S w) (hb : Below W0.heap.size W0 w) (f : Rs) {sv : Value} (hs : Src w sv 1 2 (zcell f)) (h1 : ∀ u ∈ zcell f, u.oneCell' = true) (hn : S.length ≤ 900000) :
    ∃ b n' cap' w', (Builtin.append_ #[128, 128] ty #[.slice (some ⟨ab, 0, none⟩) n c, sv]).run Tryd.prog w = .ok (.slice (some ⟨b, 0, none⟩) n' cap') w' ∧ Pushed8 W0 w (f :: S) b n' cap' w' := by
  obtain ⟨i0, hi, hz0, hz1, hz2⟩ := info_parts Tryd.infoRest
  obtain ⟨hl, ho⟩ := h
  obtain ⟨b, cap', w', hr, h2, h3, h4⟩ := own_app (ty := ty) Tryd.underlying128 hi hz0 hz1 hz2 rfl (by decide) (by decide) ho hs h1 (by omega) (by omega) hb.size
  refine ⟨b, _, cap', w', hr, ⟨by rw [List.length_cons, hl], by rw [zcells_cons]; exact h2⟩, ⟨h3.size, fun g o hg hne => ?_⟩, hb.trans ((Below.refl _ w).grown h3 hb.size fun k hk => (World.ownsRow.lt ho k hk).1)⟩
  refine (h3.block g (row_lt hg) fun e => ?_).trans hg
  simp only [Value.ownBlock, Option.some.injEq] at e
  subst e
  obtain ⟨cs, hcs⟩ := own_heap ho
  rw [hg] at hcs
  exact hne cs (Option.some.inj hcs)

end Go.Proofs.YtlnlpahmfpjjdaaDoor
