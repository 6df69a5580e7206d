/-
  Texts of the proof, put together: GrRawL, GrLaw, GdBld.
-/
import Derived.Test.YtkmlnccdldmmpaaDoorG36
import Derived.Test.YtkmlnccdldmmpaaDoorG37
import Derived.Test.YtkmlnccdldmmpaaDoorG38
import Derived.Test.YtkmlnccdldmmpaaDoorG16
import Derived.Test.YtkmlnccdldmmpaaDoorG30
import Derived.Test.YtkmlnccdldmmpaaDoorG34
import Derived.Test.YtkmlnccdldmmpaaDoorG35
import Derived.Test.YtkmlnccdldmmpaaDoorG18

/-
  GroupsRaw, walked, over what Flat, Depth and awake of the program answer.
-/
namespace Go.Proofs.YtkmlnccdldmmpaaDoor
open Go.RowKit

/-- No deeper than it is. -/
theorem its_fit : ∀ (e d : Nat) (l : List Itm) (v : Value) (w : World), ItsAt d l v w → Fits e l → ItsAt e l v w
  | 0, d, l, v, w, h, hf => by
    have key : ∀ R : RelI, ItsOf R l v w → ItsOf (fun _ _ _ => False) l v w := fun R h => by
      obtain ⟨a, cap, hv, h1, h2, h3⟩ := h
      refine ⟨a, cap, hv, h1, h2, fun k it hit => ?_⟩
      obtain ⟨g, o, ha, hg, av, hc, a', cap', hv', h1', h2', -⟩ := h3 k it hit
      have hn := hf it (List.mem_of_getElem? hit)
      exact ⟨g, o, ha, hg, av, hc, a', cap', hv', h1', h2', fun j x hx => by rw [hn] at hx; simp at hx⟩
    cases d with
    | zero => exact h
    | succ d => exact key _ h
  | e + 1, d, l, v, w, h, hf => by
    have key : ∀ R : RelI, (∀ l v w, R l v w → Fits e l → ItsAt e l v w) → ItsOf R l v w → ItsOf (ItsAt e) l v w := fun R hR h => by
      obtain ⟨a, cap, hv, h1, h2, h3⟩ := h
      refine ⟨a, cap, hv, h1, h2, fun k it hit => ?_⟩
      obtain ⟨g, o, ha, hg, av, hc, a', cap', hv', h1', h2', h3'⟩ := h3 k it hit
      refine ⟨g, o, ha, hg, av, hc, a', cap', hv', h1', h2', fun j x hx => ?_⟩
      obtain ⟨g', o', ha', hg', iv, hc', hr⟩ := h3' j x hx
      exact ⟨g', o', ha', hg', iv, hc', hR _ _ _ hr (hf it (List.mem_of_getElem? hit) x (List.mem_of_getElem? hx))⟩
    cases d with
    | zero => exact key _ (fun _ _ _ h => h.elim) h
    | succ d => exact key _ (fun l v w h hf => its_fit e d l v w h hf) h
theorem light_fits : ∀ (d m : Nat) (l : List Itm) (dp : Nat), Fits d l → dp + m = 7 → lightF d l dp = true → Fits m l
  | 0, 0, l, dp, hf, _, _ => hf
  | 0, m + 1, l, dp, hf, _, _ => fun it hit a ha => by rw [hf it hit] at ha; cases ha
  | d + 1, 0, l, dp, _, hm, h => by
    obtain ⟨-, h2, -⟩ := lightL_is (G := lightF d) h
    omega
  | d + 1, m + 1, l, dp, hf, hm, h => by
    obtain ⟨-, -, h3⟩ := lightL_is (G := lightF d) h
    exact fun it hit a ha => light_fits d m a.2 (dp + 1) (hf it hit a ha) (by omega) ((h3 it hit).2 a ha)
theorem fits_up {d e : Nat} (hde : d ≤ e) {l : List Itm} (h : Fits d l) : Fits e l := by
  induction hde with
  | refl => exact h
  | step _ ih => exact fits_more _ _ ih
theorem flat_stable {d e : Nat} (hde : d ≤ e) {l : List Itm} (h : Fits d l) : flatF e l = flatF d l := by
  induction hde with
  | refl => rfl
  | step hde ih => rw [flat_more _ _ (fits_up hde h), ih]

/-- Light items, at a depth of seven. -/
theorem light_seven {d : Nat} {l : List Itm} {v : Value} {w : World} (h : ItsAt d l v w) (hl : lightF d l 0 = true) : Fits 7 l ∧ (flatF 7 l).length ≤ 17592186044416 := by
  have hf := its_fits d l v w h
  have h7 := light_fits d 7 l 0 hf rfl hl
  refine ⟨h7, ?_⟩
  have hb := light_big hl
  rcases Nat.le_total d 7 with hd | hd
  · rw [flat_stable hd hf]
    exact hb
  · rw [← flat_stable hd h7]
    exact hb

set_option maxRecDepth 100000 in
set_option maxHeartbeats 3200000 in
theorem raw_law {W : World} (hA : ∀ X : World, Below W.heap.size W X → Calls Tryd.prog 21 #[] X (TruePost X))
    (hFl : ∀ (l : List Itm) (v : Value) (X : World), Below W.heap.size W X → ItsAt 7 l v X → (flatF 7 l).length ≤ 17592186044416 → Calls Tryd.prog 30 #[v] X (FlatPost X (flatF 7 l)))
    (hDp : ∀ (l : List Itm) (v : Value) (X : World), Below W.heap.size W X → ItsAt 7 l v X → (flatF 7 l).length ≤ 17592186044416 → Calls Tryd.prog 32 #[v] X (IntNew ((deepF 7 l : Nat) : Int) X))
    {d : Nat} {l : List Itm} {v : Value} (h : ItsAt d l v W) : Calls Tryd.prog 9 #[v] W (TruePost W) := by
  obtain ⟨a, n, cap, rfl, -⟩ := itsAt_form d _ _ _ h
  have HL : Hid (Calls Tryd.prog 34 #[.slice a n cap, .int .i64 0] W (BoolPost (lightF d l 0) W)) := Lib.hid (light_any d l _ W 0 h (by omega))
  have HA := Lib.hid hA
  by_cases hl : lightF d l 0 = true
  · rw [hl] at HL
    obtain ⟨h7, hb⟩ := light_seven h hl
    have HR := Lib.hid (raw_any d l _ W h (light_small d l 0 hl))
    have HRF : Hid (∀ X : World, Below W.heap.size W X → Calls Tryd.prog 31 #[.slice a n cap] X (FlatPost X (flatF 7 l))) := Lib.hid (fun X b => rflat_any 7 l _ X (its_fit 7 d l _ X (itsAt_over d _ _ _ _ h b) h7) hb)
    have HRD : Hid (∀ X : World, Below W.heap.size W X → Calls Tryd.prog 33 #[.slice a n cap] X (NatPost (deepF 7 l) X)) := Lib.hid (fun X b => rdepth_any 7 l _ X (by omega) (its_fit 7 d l _ X (itsAt_over d _ _ _ _ h b) h7))
    have HFL := Lib.hid (fun v X b (hx : ItsAt 7 l v X) => hFl l v X b hx hb)
    have HDP := Lib.hid (fun v X b (hx : ItsAt 7 l v X) => hDp l v X b hx hb)
    have HDN : Hid (∀ v X, ItsP (Iv W.heap.size X.heap.size) d l v X → ItsAt 7 l v X) := Lib.hid (fun v X hp => its_fit 7 d l v X (itsP_at _ d l v X hp) h7)
    obtain ⟨N, hN⟩ : ∃ N : Int, ((deepF 7 l : Nat) : Int) = N := ⟨_, rfl⟩
    have HND : Hid (∀ X : World, Below W.heap.size W X → Calls Tryd.prog 33 #[.slice a n cap] X (fun e w' => e = .returned (.int .i64 N) ∧ X = w')) := Lib.hid (fun X b => (HRD.out X b).mono fun e w' ⟨h1, h2⟩ => ⟨by rw [h1, hN], h2⟩)
    rw [hN] at HDP
    have hk : (N == N) = true := by simp
    clear h hl h7 hb hA hFl hDp hN HRD
    go_enter Tryd.func9, Tryd.ntmps9
    go_wp2_with (first
      | (go_at_call 34; (with_reducible refine HL.out.mono ?_); rintro e w' ⟨rfl, rfl⟩)
      | (go_at_call 35; (with_reducible refine HR.out.mono ?_); rintro e w1 ⟨ra, rn, rc, rfl, hp, hb⟩; have HI1 := Lib.hid (HDN.out _ _ hp); have HB1 := Lib.hid hb; clear hp hb)
      | (go_at_call 30; (with_reducible refine (HFL.out _ _ HB1.out HI1.out).mono ?_); rintro e w2 ⟨fa, fn, fc, rfl, -, hu⟩; have HU2 := Lib.hid (ints_read hu); have HB2 := Lib.hid (below_up HB1.out hu.2); have HI2 := Lib.hid (itsAt_over 7 _ _ _ _ HI1.out hu.2); clear hu)
      | (go_at_call 31; (with_reducible refine (HRF.out _ HB2.out).mono ?_); rintro e w3 ⟨ga, gn, gc, rfl, -, hu⟩; have HS3 := Lib.hid (ints_any (HU2.out.over hu.2) (ints_read hu)); have HB3 := Lib.hid (below_up HB2.out hu.2); have HI3 := Lib.hid (itsAt_over 7 _ _ _ _ HI2.out hu.2); clear hu)
      | (go_at_call 29; (with_reducible refine HS3.out.mono ?_); rintro e w4 ⟨rfl, hb⟩; have HB4 := Lib.hid (below_up HB3.out hb); have HI4 := Lib.hid (itsAt_over 7 _ _ _ _ HI3.out hb); clear hb)
      | (go_at_call 32; (with_reducible refine (HDP.out _ _ HB4.out HI4.out).mono ?_); rintro e w5 ⟨rfl, hb⟩; have HB5 := Lib.hid (below_up HB4.out hb); clear hb)
      | (go_at_call 33; (with_reducible refine (HND.out _ HB5.out).mono ?_); rintro e w6 ⟨rfl, rfl⟩)
      | (go_at_call 21; (with_reducible refine (HA.out _ HB5.out).mono ?_); rintro e w7 ⟨rfl, hb⟩; have HB7 := Lib.hid (below_up HB5.out hb); clear hb))
    go_ret
    exact ⟨rfl, HB7.out⟩
  · have hl' : lightF d l 0 = false := by simpa using hl
    rw [hl'] at HL
    clear h hl hl' hA hFl hDp
    go_enter Tryd.func9, Tryd.ntmps9
    go_wp2_with (first
      | (go_at_call 34; (with_reducible refine HL.out.mono ?_); rintro e w' ⟨rfl, rfl⟩)
      | (go_at_call 21; (with_reducible refine (HA.out _ (Below.refl _ _)).mono ?_); rintro e w7 ⟨rfl, hb⟩; have HB7 := Lib.hid hb; clear hb))
    go_ret
    exact ⟨rfl, HB7.out⟩

end Go.Proofs.YtkmlnccdldmmpaaDoor

/-
  Bounds that the laws of the groups need, over lists.
-/
namespace Go.Proofs.YtkmlnccdldmmpaaDoor

theorem flat_mem {α β : Type} {f : α → List β} : ∀ {l : List α} {a : α}, a ∈ l → (f a).length ≤ (l.flatMap f).length
  | [], _, h => by cases h
  | b :: r, a, h => by
    rw [List.flatMap_cons, List.length_append]
    rcases List.mem_cons.1 h with rfl | h
    · omega
    · have := flat_mem (f := f) h
      omega
theorem flat_ge {α β : Type} {f : α → List β} : ∀ (l : List α), (∀ a ∈ l, 1 ≤ (f a).length) → l.length ≤ (l.flatMap f).length
  | [], _ => Nat.zero_le _
  | b :: r, h => by
    rw [List.flatMap_cons, List.length_append, List.length_cons]
    have h1 := flat_ge r fun a ha => h a (List.mem_cons_of_mem _ ha)
    have h2 := h b List.mem_cons_self
    omega
theorem small_flat : ∀ (d : Nat) (l : List Itm), (flatF d l).length ≤ 500000 → SmallF d l
  | 0, l, h => by
    rw [show flatF 0 l = l.map Itm.line from rfl, List.length_map] at h
    exact h
  | d + 1, l, h => by
    have h' : (l.flatMap (flatI (flatF d))).length ≤ 500000 := h
    have hne : ∀ it ∈ l, 1 ≤ (flatI (flatF d) it).length := fun it _ => by
      unfold flatI
      split
      · exact Nat.le_refl _
      · rename_i hne
        obtain ⟨a, r, ha⟩ := List.exists_cons_of_ne_nil hne
        rw [ha, List.flatMap_cons, List.length_append, List.length_cons]
        omega
    refine ⟨Nat.le_trans (flat_ge l hne) h', fun it hit => ?_⟩
    have h1 := flat_mem (f := flatI (flatF d)) hit
    by_cases ha : it.arms = []
    · rw [ha]
      exact ⟨Nat.zero_le _, fun x hx => by cases hx⟩
    · have h2 : flatI (flatF d) it = it.arms.flatMap fun a => a.1 :: flatF d a.2 := if_neg ha
      rw [h2] at h1
      refine ⟨Nat.le_trans (Nat.le_trans (flat_ge it.arms fun a _ => by simp) h1) h', fun x hx => small_flat d x.2 ?_⟩
      have h3 := flat_mem (f := fun a : Int × List Itm => a.1 :: flatF d a.2) hx
      rw [List.length_cons] at h3
      omega
theorem kept_few : ∀ (ks : List (Nat × Bool)) (s : Bs) (i : Nat), (keptL s i ks).length ≤ ks.length
  | [], _, _ => Nat.le_refl _
  | (k, ne) :: r, s, i => by
    have := kept_few r (stepB s i k ne) (i + 1)
    rw [keptL, List.length_append, List.length_cons]
    split
    · rw [List.length_singleton]; omega
    · rw [List.length_nil]; omega
theorem built_few (lines : List Ln) : (flatIts (buildL (ksOf lines)).1).length ≤ lines.length := by
  rw [flat_build]
  have := kept_few (ksOf lines) bs0 0
  unfold ksOf at this ⊢
  rw [List.length_map] at this
  exact this
theorem lines_few (s : ByteArray) {n : Nat} (hs : s.size ≤ n) : (linesA (charsL s.data.toList) s.size).lines.length ≤ n + 1 := by
  obtain ⟨m, hm, hm2⟩ := charsL_few s.data.toList
  rw [len_byte] at hm2
  have := run_few (charsL s.data.toList) s.size (charsL s.data.toList).length 0 acc0
  unfold linesA
  have e : acc0.lines.length = 0 := rfl
  omega
theorem its_flat {d : Nat} {l : List Itm} {v : Value} {w : World} (h : ItsAt d l v w) : flatF d l = flatIts l := flatF_is d l (its_fits d l v w h)
theorem its_small {d : Nat} {l : List Itm} {v : Value} {w : World} (h : ItsAt d l v w) (hf : (flatIts l).length ≤ 500000) : SmallF d l := small_flat d l (by rw [its_flat h]; exact hf)

end Go.Proofs.YtkmlnccdldmmpaaDoor

/-
  The document's Build in memory: rows of levels and of conditions; a condition ends.
-/
namespace Go.Proofs.YtkmlnccdldmmpaaDoor
open Go.RowKit

/-- An append to a row of one colour. -/
theorem rowc_push {c : Col} {k B n m : Nat} {t ty e : TypeId} {i0 : TypeInfo} {z : Value} {size bytes : Nat} {v sv : Value} {xs news : List Value} {w : World}
    (ht : Tryd.prog.underlying t = some (.slice e)) (hi : Tryd.prog.info? e = some i0) (hz : i0.zero = some z) (hsz : i0.size = size) (hby : i0.bytes = bytes) (hzs : z.cells.size = size) (hpos : 0 < size) (hbb : bytes ≤ 100)
    (h : RowC c k B e size v n xs w) (hs : Src w sv m size news) (h1 : ∀ u ∈ news, u.oneCell' = true) (hm : 0 < m) (hn : n + m ≤ 1000000) (hB : B ≤ w.heap.size) :
    ∃ b n' cap w', (Builtin.append_ #[t, t] ty #[v, sv]).run Tryd.prog w = .ok (.slice (some ⟨b, 0, none⟩) n' cap) w' ∧ (n' = n + m ∧ ∃ c', RowC c' k B e size (.slice (some ⟨b, 0, none⟩) n' cap) n' (xs ++ news) w' ∧ Chg k c c' w w' ∧ Below B w w') := by
  obtain ⟨ho, hc⟩ := h
  obtain ⟨b, cap, w', hr, h2, h3, h4⟩ := own_app (ty := ty) ht hi hz hsz hby hzs hpos hbb ho hs h1 (by omega) hn hB
  refine ⟨b, _, cap, w', hr, rfl, fun g => if g = b then k else c g, ⟨h2, fun g hg => ?_⟩, ⟨h3.size, fun g hg => ?_, fun g hg hk => h3.block g hg fun e => hk (hc g e.symm)⟩, (Below.refl B w).grown h3 hB fun k hk => (World.ownsRow.lt ho k hk).1⟩
  · simp only [Value.ownBlock, Option.some.injEq] at hg
    subst hg
    show (if b = b then k else c b) = k
    rw [if_pos rfl]
  · show (if g = b then k else c g) = c g
    split
    · rename_i e
      subst e
      rcases h4 with h4 | h4
      · exact (hc g h4).symm
      · omega
    · rfl

def ivv (p : Fr × Fv) : Value := .slice p.2.ia p.2.im p.2.ic
def rcc (p : Fr × Fv) : List Value := [.int .i64 2, .int .i64 (p.1.ln : Int), .slice (some ⟨p.2.ab, 0, none⟩) (p.2.A.length + 1) p.2.ac]
def rccs (F : List (Fr × Fv)) : List Value := (F.drop 1).flatMap rcc
theorem rccs_snoc {X : List (Fr × Fv)} (hX : X ≠ []) (p : Fr × Fv) : rccs (X ++ [p]) = rccs X ++ rcc p := by
  unfold rccs
  cases X with
  | nil => exact absurd rfl hX
  | cons a r => simp
theorem rccs_len (F : List (Fr × Fv)) : (rccs F).length = (F.length - 1) * 3 := by
  unfold rccs
  rw [flat_len (n := 3) (fun _ => rfl), List.length_drop]
theorem rccs_same {X : List (Fr × Fv)} {p q : Fr × Fv} (h : rcc p = rcc q) : rccs (X ++ [p]) = rccs (X ++ [q]) := by
  cases X with
  | nil => rfl
  | cons a r => rw [rccs_snoc (by simp), rccs_snoc (by simp), h]

structure RFr (c : Col) (B d j : Nat) (f : Fr) (x : Fv) (w : World) : Prop where
  ma : x.A.map Prod.fst = f.dn
  mp : x.P.map Prod.fst = f.cu
  fa : x.A.length ≤ d
  fp : x.P.length ≤ d
  lev : LevAt c B 102 (3 * j + 4) d (.slice x.ia x.im x.ic) x.P w
  arm : j ≠ 0 → ArmAt c B 99 (3 * j + 4) d x.A (f.la : Int) (.slice none 0 0) x.ab x.ac w
theorem RFr.chg {c c' : Col} {B d j m : Nat} {f : Fr} {x : Fv} {w w' : World} (h : RFr c B d j f x w) (s : Chg m c c' w w') (hm : m < 3 * j + 4 ∨ 3 * j + 6 < m) : RFr c' B d j f x w' :=
  ⟨h.ma, h.mp, h.fa, h.fp, h.lev.chg s (by omega) (by omega), fun hj => (h.arm hj).chg s (by omega) (by omega)⟩
theorem RFr.more {c : Col} {B d j : Nat} {f : Fr} {x : Fv} {w : World} (h : RFr c B d j f x w) : RFr c B (d + 1) j f x w :=
  ⟨h.ma, h.mp, Nat.le_succ_of_le h.fa, Nat.le_succ_of_le h.fp, h.lev.more, fun hj => (h.arm hj).more⟩
theorem RFr.recol {c c' : Col} {B d j : Nat} {f : Fr} {x : Fv} {w : World} (h : RFr c B d j f x w) (hc : ∀ g, 3 * j + 4 ≤ c g → c g ≤ 3 * j + 6 → c' g = c g) : RFr c' B d j f x w :=
  ⟨h.ma, h.mp, h.fa, h.fp, h.lev.recol (fun g hg => (hc g (by omega) (by omega)).trans hg) (fun g hg => (hc g (by omega) (by omega)).trans hg), fun hj => (h.arm hj).recol (fun g hg => (hc g (by omega) (by omega)).trans hg) (fun g hg => (hc g (by omega) (by omega)).trans hg)⟩

/-- The levels, the conditions, and what hangs on them. -/
structure RCore (W : World) (c : Col) (d : Nat) (F : List (Fr × Fv)) (la lc : Nat) (ca : Option Addr) (cn cc : Nat) (w : World) : Prop where
  bel : Below W.heap.size W w
  lev : RowC c 0 W.heap.size 47 1 (.slice (some ⟨la, 0, none⟩) F.length lc) F.length (F.map ivv) w
  cln : cn + 1 = F.length
  con : RowC c 1 W.heap.size 102 3 (.slice ca cn cc) cn (rccs F) w
  few : F.length ≤ d + 1
  frs : ∀ j f x, F[j]? = some (f, x) → RFr c W.heap.size d j f x w

section
variable {W : World} {c : Col} {d : Nat} {F : List (Fr × Fv)} {la lc : Nat} {ca : Option Addr} {cn cc : Nat} {w : World}

theorem RCore.over (h : RCore W c d F la lc ca cn cc w) {w' : World} (b : Below w.heap.size w w') : RCore W c d F la lc ca cn cc w' :=
  ⟨h.bel.trans (b.mono h.bel.size), h.lev.chg (Chg.below 9 c b) (by omega), h.cln, h.con.chg (Chg.below 9 c b) (by omega), h.few, fun j f x hj => (h.frs j f x hj).chg (Chg.below 0 c b) (by omega)⟩
theorem RCore.recol (h : RCore W c d F la lc ca cn cc w) {c1 : Col} (hc : ∀ g, g < w.heap.size → c1 g = c g) : RCore W c1 d F la lc ca cn cc w :=
  have s : ∀ k, Chg k c c1 w w := fun _ => ⟨Nat.le_refl _, hc, fun _ _ _ => rfl⟩
  ⟨h.bel, h.lev.chg (s 9) (by omega), h.cln, h.con.chg (s 9) (by omega), h.few, fun j f x hj => (h.frs j f x hj).chg (s 0) (by omega)⟩
theorem RCore.more (h : RCore W c d F la lc ca cn cc w) : RCore W c (d + 1) F la lc ca cn cc w := ⟨h.bel, h.lev, h.cln, h.con, Nat.le_succ_of_le h.few, fun j f x hj => (h.frs j f x hj).more⟩
theorem RCore.chg (h : RCore W c d F la lc ca cn cc w) {c' : Col} {w' : World} {m : Nat} (s : Chg m c c' w w') (hm : m = 2 ∨ m = 3) (hb : Below W.heap.size W w') : RCore W c' d F la lc ca cn cc w' :=
  ⟨hb, h.lev.chg s (by omega), h.cln, h.con.chg s (by omega), h.few, fun j f x hj => (h.frs j f x hj).chg s (by omega)⟩
theorem RCore.llt (h : RCore W c d F la lc ca cn cc w) : la < w.heap.size ∧ W.heap.size ≤ la ∧ c la = 0 := ⟨(World.ownsRow.lt h.lev.1 la rfl).2, (World.ownsRow.lt h.lev.1 la rfl).1, h.lev.2 la rfl⟩
theorem RCore.lcap (h : RCore W c d F la lc ca cn cc w) : F.length ≤ lc ∧ lc ≤ maxLen := by
  obtain ⟨a, cap, hv, h1, h2, -⟩ := row_form h.lev.1
  simp only [Value.slice.injEq, true_and] at hv
  obtain ⟨-, rfl⟩ := hv
  exact ⟨h1, h2⟩
theorem RCore.ccap (h : RCore W c d F la lc ca cn cc w) : cn ≤ cc ∧ cc ≤ maxLen := by
  obtain ⟨a, cap, hv, h1, h2, -⟩ := row_form h.con.1
  simp only [Value.slice.injEq, true_and] at hv
  obtain ⟨-, rfl⟩ := hv
  exact ⟨h1, h2⟩
theorem RCore.fr (h : RCore W c d F la lc ca cn cc w) {F0 F1 : List (Fr × Fv)} {f : Fr} {x : Fv} (hF : F = F0 ++ (f, x) :: F1) : RFr c W.heap.size d F0.length f x w := h.frs _ _ _ (by rw [hF]; simp)
/-- A level's slice. -/
theorem RCore.lcell (h : RCore W c d F la lc ca cn cc w) {j : Nat} {p : Fr × Fv} (hj : F[j]? = some p) : w.cell? ⟨la, j, none⟩ = some (ivv p) := by
  have hl := (List.getElem?_eq_some_iff.1 hj).1
  rw [h.lev.1.cellAt j (by omega), List.getElem?_map, hj]
  rfl
theorem RFr.icap {B j : Nat} {f : Fr} {x : Fv} (h : RFr c B d j f x w) : x.im = x.P.length ∧ x.im ≤ x.ic ∧ x.ic ≤ maxLen := by
  obtain ⟨a, cap, hv, h1, h2, -⟩ := row_form h.lev.row.1
  simp only [Value.slice.injEq] at hv
  obtain ⟨-, hm, rfl⟩ := hv
  exact ⟨hm, by omega, h2⟩
theorem RFr.acap {B j : Nat} {f : Fr} {x : Fv} (h : RFr c B d j f x w) (hj : j ≠ 0) : x.A.length + 1 ≤ x.ac ∧ x.ac ≤ maxLen ∧ x.ab < w.heap.size := by
  obtain ⟨a, cap, hv, h1, h2, -⟩ := row_form (h.arm hj).row.1
  simp only [Value.slice.injEq, true_and] at hv
  obtain ⟨-, rfl⟩ := hv
  exact ⟨h1, h2, (World.ownsRow.lt (h.arm hj).row.1 x.ab rfl).2⟩
/-- The top condition's cells. -/
theorem RCore.ccell {X : List (Fr × Fv)} {f : Fr} {x : Fv} (h : RCore W c d (X ++ [(f, x)]) la lc ca cn cc w) (hX : X ≠ []) : ∃ g, ca = some ⟨g, 0, none⟩ ∧ g < w.heap.size ∧ W.heap.size ≤ g ∧ c g = 1 ∧ cn = (X.length - 1) + 1 ∧
    w.cell? ⟨g, (X.length - 1) * 3, none⟩ = some (.int .i64 2) ∧ w.cell? ⟨g, (X.length - 1) * 3 + 1, none⟩ = some (.int .i64 (f.ln : Int)) ∧ w.cell? ⟨g, (X.length - 1) * 3 + 2, none⟩ = some (.slice (some ⟨x.ab, 0, none⟩) (x.A.length + 1) x.ac) := by
  have hpos := List.length_pos_iff.2 hX
  have hcn := h.cln
  rw [List.length_append] at hcn
  have hcn' : cn = X.length := by simpa using hcn
  obtain ⟨a, cap, hv, h1, h2, h3⟩ := row_form h.con.1
  simp only [Value.slice.injEq, true_and] at hv
  obtain ⟨rfl, rfl⟩ := hv
  rw [rccs_snoc hX] at h3
  have hget : ∀ i u, (rcc (f, x))[i]? = some u → ∃ g, ca = some ⟨g, 0, none⟩ ∧ g < w.heap.size ∧ w.cell? ⟨g, (X.length - 1) * 3 + i, none⟩ = some u := fun i u hu => by
    refine h3 ((X.length - 1) * 3 + i) u ?_
    rw [List.getElem?_append_right (by rw [rccs_len]; omega), rccs_len, show (X.length - 1) * 3 + i - (X.length - 1) * 3 = i from by omega]
    exact hu
  obtain ⟨g, hg, hlt, c0⟩ := hget 0 _ rfl
  obtain ⟨g1, hg1, -, c1⟩ := hget 1 _ rfl
  obtain ⟨g2, hg2, -, c2⟩ := hget 2 _ rfl
  rw [hg] at hg1 hg2
  simp only [Option.some.injEq, Addr.mk.injEq, and_true] at hg1 hg2
  subst hg1 hg2
  exact ⟨g, hg, hlt, (World.ownsRow.lt h.con.1 g (by rw [hg]; rfl)).1, h.con.2 g (by rw [hg]; rfl), by omega, c0, c1, c2⟩

/-- The arms, copied. -/
def Copied (B : Nat) (A : List ((Int × List Itm) × Value)) (l : Int) (u : Value) (w : World) (b n cap : Nat) (w' : World) : Prop :=
  n = A.length + 1 ∧ w.heap.size ≤ b ∧ Below w.heap.size w w' ∧ w'.ownsRow B 99 2 (.slice (some ⟨b, 0, none⟩) n cap) n (acells A ++ [.int .i64 l, u])
theorem ArmAt.copy {k B : Nat} {ty : TypeId} {A : List ((Int × List Itm) × Value)} {l : Int} {u : Value} {ab ac : Nat} (h : ArmAt c B 99 k d A l u ab ac w) (hA : A.length ≤ 400000) (hu : u.oneCell' = true) (hone : ∀ q ∈ A, q.2.oneCell' = true) (hB : B ≤ w.heap.size) :
    ∃ b n cap w', (Builtin.append_ #[100, 100] ty #[.slice (some ⟨w.heap.size, 0, none⟩) 0 0, .slice (some ⟨ab, 0, none⟩) (A.length + 1) ac]).run Tryd.prog (w.alloc (.cells #[] 99)) = .ok (.slice (some ⟨b, 0, none⟩) n cap) w' ∧ Copied B A l u w b n cap w' := by
  obtain ⟨i0, hi, hz0, hz1, hz2⟩ := info_parts Tryd.infoArmR
  have hlt := (World.ownsRow.lt h.row.1 ab rfl).2
  have hb2 : Below w.heap.size w (w.alloc (.cells #[] 99)) := (Below.refl _ _).alloc (Nat.le_refl _) _
  have hrow := row_empty (B := w.heap.size) (w := w) 99 2 (Nat.le_refl _)
  have hsrc := (row_src h.row.1).below (w' := w.alloc (.cells #[] 99)) (fun ad m c e => by cases e; exact hlt) hb2
  obtain ⟨b, cap, w', hr, h2, h3, h4⟩ := own_app (ty := ty) Tryd.underlying100 hi hz0 hz1 hz2 rfl (by decide) (by decide) hrow hsrc (by
    intro v hv
    rcases List.mem_append.1 hv with hv | hv
    · unfold acells at hv
      rw [List.mem_flatMap] at hv
      obtain ⟨q, hq, hv⟩ := hv
      simp only [acell, List.mem_cons, List.not_mem_nil, or_false] at hv
      rcases hv with rfl | rfl
      · rfl
      · exact hone q hq
    · simp only [List.mem_cons, List.not_mem_nil, or_false] at hv
      rcases hv with rfl | rfl
      · rfl
      · exact hu) (by omega) (by omega) (by simp)
  refine ⟨b, _, cap, w', hr, by omega, (World.ownsRow.lt h2 b rfl).1, hb2.trans ((Below.refl _ _).grown h3 (by simp) fun k hk => (World.ownsRow.lt hrow k hk).1), ?_⟩
  have := row_low h2 hB
  simpa using this
theorem arm_one {k B : Nat} {A : List ((Int × List Itm) × Value)} {l : Int} {u : Value} {ab ac : Nat} {TA : TypeId} (h : ArmAt c B TA k d A l u ab ac w) : ∀ q ∈ A, q.2.oneCell' = true := fun q hq => by
  obtain ⟨a, n, cp, hv, -⟩ := itsP_form _ _ _ _ _ (h.its q hq)
  rw [hv]
  rfl

/-- The top is taken off; with its arms at another place it is an item. -/
theorem RCore.pop {X : List (Fr × Fv)} {f : Fr} {x : Fv} (h : RCore W c d (X ++ [(f, x)]) la lc ca cn cc w) (hX : X ≠ []) {b cap : Nat} (hrow : w.ownsRow W.heap.size 99 2 (.slice (some ⟨b, 0, none⟩) (x.A.length + 1) cap) (x.A.length + 1) (acells x.A ++ [.int .i64 (f.la : Int), .slice x.ia x.im x.ic])) (hcb : c b = 3 * X.length + 4) :
    ∃ c', RCore W c' (d + 1) X la lc ca (cn - 1) cc w ∧ (∀ g, c g < 4 → c' g = c g) ∧ (∀ g, c g = 0 → c' g = 0) ∧
      ArmsP (fun g => c' g = 3 * X.length + 3) (ItsP (fun g => c' g = 3 * X.length + 3) (d + 1)) (f.dn ++ [((f.la : Int), f.cu)]) (.slice (some ⟨b, 0, none⟩) (x.A.length + 1) cap) w := by
  have hf := h.fr (F1 := []) rfl
  have hpos := List.length_pos_iff.2 hX
  have harm := hf.arm (by omega)
  generalize hm : X.length = m at hf hcb hpos harm
  have e1 : ∀ g, ¬ (3 * m + 4 ≤ c g ∧ c g ≤ 3 * m + 6) → (fun g => if 3 * m + 4 ≤ c g ∧ c g ≤ 3 * m + 6 then 3 * m + 3 else c g) g = c g := fun g hg => if_neg hg
  generalize hc1 : (fun g => if 3 * m + 4 ≤ c g ∧ c g ≤ 3 * m + 6 then 3 * m + 3 else c g) = c1 at e1
  have e2 : ∀ g, (3 * m + 4 ≤ c g ∧ c g ≤ 3 * m + 6) → c1 g = 3 * m + 3 := fun g hg => by rw [← hc1]; exact if_pos hg
  have hits : ItsP (fun g => c1 g = 3 * m + 3) (d + 1) f.cu (.slice x.ia x.im x.ic) w := by
    rw [← hf.mp]
    exact hf.lev.done (fun g hg => e2 g (by omega)) (fun g hg => e2 g (by omega))
  have harm2 : ArmAt c W.heap.size 99 (3 * m + 4) d x.A (f.la : Int) (.slice x.ia x.im x.ic) b cap w := ⟨⟨hrow, fun g hg => by simp only [Value.ownBlock, Option.some.injEq] at hg; rw [← hg]; exact hcb⟩, harm.its⟩
  have harms := harm2.done (Pk := fun g => c1 g = 3 * m + 3) (its := f.cu) (fun g hg => e2 g (by omega)) (fun g hg => e2 g (by omega)) hits
  rw [hf.ma] at harms
  have hcn := h.cln
  rw [List.length_append] at hcn
  have hcn' : cn = m := by rw [hm] at hcn; simpa using hcn
  refine ⟨c1, ⟨h.bel, ?_, by rw [hm]; omega, ?_, ?_, fun j f' x' hj => ?_⟩, fun g hg => e1 g (by omega), fun g hg => by rw [e1 g (by omega)]; exact hg, harms⟩
  · have h1 := own_shrink h.lev.1 (m := X.length) (by simp)
    rw [List.map_append, List.take_left' (by rw [List.length_map]; omega)] at h1
    exact ⟨h1, fun g hg => by rw [e1 g (by have := h.lev.2 g hg; omega)]; exact h.lev.2 g hg⟩
  · obtain ⟨ga, hga, -⟩ := h.ccell hX
    have ho := h.con.1
    have hcol := h.con.2
    rw [hga] at ho hcol ⊢
    have h1 := own_shrink ho (m := cn - 1) (by omega)
    rw [rccs_snoc hX, List.take_left' (by rw [rccs_len, hm]; congr 1; omega)] at h1
    exact ⟨h1, fun g hg => by rw [e1 g (by have := hcol g hg; omega)]; exact hcol g hg⟩
  · have := h.few
    simp at this
    omega
  · have hlt' : j < X.length := (List.getElem?_eq_some_iff.1 hj).1
    have := (h.frs j f' x' (by rw [List.getElem?_append_left hlt']; exact hj)).recol (c' := c1) (fun g h1 h2 => e1 g (by omega))
    exact this.more

/-- An item more in the innermost arm. -/
theorem RCore.add {X : List (Fr × Fv)} {f : Fr} {x : Fv} (h : RCore W c d (X ++ [(f, x)]) la lc ca cn cc w) {w' : World} {c' : Col} {it : Itm} {av : Value} {b n' cap' : Nat}
    (hl : LevAt c' W.heap.size 102 (3 * X.length + 4) d (.slice (some ⟨b, 0, none⟩) n' cap') (x.P ++ [(it, av)]) w') (s : Chg (3 * X.length + 4 + 1) c c' w w') (hb : Below W.heap.size w w') :
    RCore W c' (d + 1) (X ++ [({ f with cu := f.cu ++ [it] }, { x with P := x.P ++ [(it, av)], ia := some ⟨b, 0, none⟩, im := n', ic := cap' })]) la lc ca cn cc (w'.setCell ⟨la, X.length, none⟩ (.slice (some ⟨b, 0, none⟩) n' cap')) := by
  have hf := h.fr (F1 := []) rfl
  obtain ⟨hlt, hlow, hcl⟩ := h.llt
  have hcl' : c' la = 0 := (s.col _ hlt).trans hcl
  have s2 := Chg.set c' w' ⟨la, X.length, none⟩ (.slice (some ⟨b, 0, none⟩) n' cap')
  rw [hcl'] at s2
  refine ⟨(h.bel.trans hb).setCell hlow _, ?_, by have := h.cln; simpa using this, ?_, by have := h.few; simp at this ⊢; omega, fun j f' x' hj => ?_⟩
  · have h1 := h.lev.chg s (by omega)
    have h2 := own_setX h1.1 X.length (.slice (some ⟨b, 0, none⟩) n' cap')
    rw [List.map_append, List.set_append_right _ _ (by rw [List.length_map]; omega), List.length_map, Nat.sub_self] at h2
    rw [List.map_append]
    simp only [List.length_append, List.length_cons, List.length_nil] at h2 h1 ⊢
    exact ⟨h2, h1.2⟩
  · have h1 := (h.con.chg s (by omega)).chg s2 (by omega)
    rw [rccs_same (p := (f, x)) (q := (({ f with cu := f.cu ++ [it] } : Fr), ({ x with P := x.P ++ [(it, av)], ia := some ⟨b, 0, none⟩, im := n', ic := cap' } : Fv))) rfl] at h1
    exact h1
  · rcases Nat.lt_or_ge j X.length with hlt' | hge
    · rw [List.getElem?_append_left hlt'] at hj
      have := h.frs j f' x' (by rw [List.getElem?_append_left hlt']; exact hj)
      exact ((this.chg s (by omega)).chg s2 (by omega)).more
    · have hj0 : j - X.length = 0 := by
        rcases Nat.eq_zero_or_pos (j - X.length) with h0 | h0
        · exact h0
        · rw [List.getElem?_append_right hge, List.getElem?_eq_none (by simp; omega)] at hj; cases hj
      rw [List.getElem?_append_right hge, hj0] at hj
      simp only [List.getElem?_cons_zero, Option.some.injEq, Prod.mk.injEq] at hj
      obtain ⟨rfl, rfl⟩ := hj
      obtain rfl : j = X.length := by omega
      refine ⟨hf.ma, by simp [hf.mp], Nat.le_succ_of_le hf.fa, by have := hf.fp; simp; omega, (hl.chg s2 (by omega) (by omega)).more, fun hj => (((hf.arm hj).chg s (by omega) (by omega)).chg s2 (by omega) (by omega)).more⟩
end

end Go.Proofs.YtkmlnccdldmmpaaDoor
