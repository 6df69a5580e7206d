/-
  Texts of the proof, put together: GrSame, GrInts, GcBld.
-/
import Derived.Test.YtkmlnccdldmmpaaDoorG12
import Derived.StillTailTactics
import Derived.Test.YtkmlnccdldmmpaaDoorG15
import Derived.Test.YtkmlnccdldmmpaaDoorG01

/-
  Ints and SameItems, of what is the same.
-/
namespace Go.Proofs.YtkmlnccdldmmpaaDoor
open Go.RowKit

/-- Numbers, as they are read. -/
def IntsR (xs : List Int) (v : Value) (w : World) : Prop :=
  ∃ a cap, v = .slice a xs.length cap ∧ xs.length ≤ cap ∧ cap ≤ maxLen ∧ ∀ j x, xs[j]? = some x → ∃ g o, a = some ⟨g, o, none⟩ ∧ g < w.heap.size ∧ w.cell? ⟨g, o + j, none⟩ = some (.int .i64 x)
theorem IntsR.over {xs : List Int} {v : Value} {w w' : World} (h : IntsR xs v w) (b : Below w.heap.size w w') : IntsR xs v w' := by
  obtain ⟨a, cap, hv, h1, h2, h3⟩ := h
  refine ⟨a, cap, hv, h1, h2, fun j x hx => ?_⟩
  obtain ⟨g, o, ha, hg, hc⟩ := h3 j x hx
  exact ⟨g, o, ha, Nat.lt_of_lt_of_le hg b.size, bcell b hc hg⟩
theorem IntsR.form {xs : List Int} {v : Value} {w : World} (h : IntsR xs v w) : ∃ a n cap, v = .slice a n cap ∧ n = xs.length ∧ n ≤ cap ∧ cap ≤ maxLen := by
  obtain ⟨a, cap, hv, h1, h2, -⟩ := h
  exact ⟨a, _, cap, hv, rfl, h1, h2⟩
theorem IntsR.get {xs : List Int} {a : Option Addr} {n cap : Nat} {w : World} (h : IntsR xs (.slice a n cap) w) {j : Nat} {x : Int} (hj : xs[j]? = some x) : ∃ g o, a = some ⟨g, o, none⟩ ∧ g < w.heap.size ∧ w.cell? ⟨g, o + j, none⟩ = some (.int .i64 x) := by
  obtain ⟨a', cap', hv, -, -, h3⟩ := h
  simp only [Value.slice.injEq] at hv
  obtain ⟨g, o, ha, hg, hc⟩ := h3 j x hj
  exact ⟨g, o, by rw [hv.1]; exact ha, hg, hc⟩

set_option maxRecDepth 100000 in
set_option maxHeartbeats 1600000 in
theorem ints_any {xs : List Int} {v v' : Value} {w : World} (h : IntsR xs v w) (h' : IntsR xs v' w) : Calls Tryd.prog 29 #[v, v'] w (TruePost w) := by
  obtain ⟨a, n, cap, rfl, hn, hc1, hc2⟩ := h.form
  obtain ⟨a', n', cap', rfl, hn', hc1', hc2'⟩ := h'.form
  obtain rfl : n = n' := hn.trans hn'.symm
  unfold maxLen at hc2 hc2'
  have HX := Lib.hid h
  have HX' := Lib.hid h'
  have HN := Lib.hid hn
  clear h h' hn hn'
  go_enter Tryd.func29, Tryd.ntmps29
  go_wp2
  go_loopw [5] (fun i wr => ∃ k : Nat, i = .int .i64 (k : Int) ∧ k ≤ n ∧ Below w.heap.size w wr) (fun i _ => n - (intOf i).toNat)
  case atStart => exact ⟨0, rfl, Nat.zero_le _, Below.refl _ _⟩
  case round =>
    obtain ⟨k, rfl, hk, hb⟩ := hrel
    by_cases hlt : k < n
    · obtain ⟨x, hx⟩ : ∃ x, xs[k]? = some x := ⟨_, List.getElem?_eq_getElem (by rw [← HN.out]; exact hlt)⟩
      obtain ⟨g, o, rfl, hg, hc⟩ := HX.out.get hx
      obtain ⟨g', o', rfl, hg', hc'⟩ := HX'.out.get hx
      have e0 := bcell hb hc hg
      have f0 := bcell hb hc' hg'
      have hkI : (k : Int) < (n : Int) := by omega
      have hk0 : (0 : Int) ≤ (k : Int) := by omega
      have HB := Lib.hid hb
      clear hb hx hc hc'
      go_wp2
      go_quiet (fail)
      go_wp2
      go_roundw
      case rel => exact ⟨k + 1, by go_num, hlt, HB.out.trans ((Below.of_drews _ _).mono HB.out.size)⟩
      case measure => simp [intOf]; omega
    · have hkI : ¬ (k : Int) < (n : Int) := by omega
      go_wp2
      go_ret
      exact ⟨rfl, hb⟩

set_option maxRecDepth 100000 in
set_option maxHeartbeats 6400000 in
theorem sameItems_step {R S : RelI} (hF : Formed R) (hG : Formed S) (oR : Over R) (oS : Over S) (hRS : ∀ l v v' w, R l v w → S l v' w → Calls Tryd.prog 26 #[v, v'] w (TruePost w)) {l : List Itm} {v v' : Value} {w : World} (h : ItsOf R l v w) (h' : ItsOf S l v' w) :
    Calls Tryd.prog 26 #[v, v'] w (TruePost w) := by
  obtain ⟨a, n, cap, rfl, hn, hc1, hc2⟩ := h.form
  obtain ⟨a', n', cap', rfl, hn', hc1', hc2'⟩ := h'.form
  obtain rfl : n = n' := hn.trans hn'.symm
  unfold maxLen at hc2 hc2'
  have HX := Lib.hid h
  have HX' := Lib.hid h'
  have HN := Lib.hid hn
  have HRS := Lib.hid hRS
  have HF := Lib.hid hF
  have HG := Lib.hid hG
  have HOR := Lib.hid oR
  have HOS := Lib.hid oS
  clear h h' hn hn' hRS hF hG oR oS
  go_enter Tryd.func26, Tryd.ntmps26
  go_wp2
  go_loopw [5] (fun i wr => ∃ k : Nat, i = .int .i64 (k : Int) ∧ k ≤ n ∧ Below w.heap.size w wr) (fun i _ => n - (intOf i).toNat)
  case atStart => exact ⟨0, rfl, Nat.zero_le _, Below.refl _ _⟩
  case round =>
    obtain ⟨k, rfl, hk, hb⟩ := hrel
    by_cases hlt : k < n
    · obtain ⟨it, hit⟩ : ∃ it, l[k]? = some it := ⟨_, List.getElem?_eq_getElem (by rw [← HN.out]; exact hlt)⟩
      obtain ⟨g, o, aa, an, ac, rfl, hg, han, hac1, hac2, ⟨c0, c1, c2⟩, hr⟩ := HX.out.get hit
      obtain ⟨g', o', aa', an', ac', rfl, hg', han', hac1', hac2', ⟨c0', c1', c2'⟩, hr'⟩ := HX'.out.get hit
      obtain rfl : an = an' := han.trans han'.symm
      have HC2 : Hid (w.cell? ⟨g, o + k * 3 + 2, none⟩ = some (.slice aa an ac) ∧ w.cell? ⟨g', o' + k * 3 + 2, none⟩ = some (.slice aa' an ac')) := Lib.hid ⟨c2, c2'⟩
      have e0 := bcell hb c0 hg
      have e1 := bcell hb c1 hg
      have e2 := bcell hb c2 hg
      have f0 := bcell hb c0' hg'
      have f1 := bcell hb c1' hg'
      have f2 := bcell hb c2' hg'
      have hkI : (k : Int) < (n : Int) := by omega
      have hk0 : (0 : Int) ≤ (k : Int) := by omega
      have HB := Lib.hid hb
      have HAN := Lib.hid han
      have HAR := Lib.hid hr
      have HAR' := Lib.hid hr'
      unfold maxLen at hac2 hac2'
      clear hb hit c0 c1 c2 c0' c1' c2' han han' hr hr'
      go_wp2
      go_quiet (fail)
      clear e0 e1 e2 f0 f1 f2
      have HBQ : Hid (Below w.heap.size w (wr.drewN nq)) := Lib.hid (HB.out.trans ((Below.of_drews _ _).mono HB.out.size))
      obtain ⟨wq, hwq⟩ : ∃ wq, wr.drewN nq = wq := ⟨_, rfl⟩
      rw [hwq] at HBQ ⊢
      clear hwq
      go_wp2
      go_loopw [6] (fun i wi => ∃ j : Nat, i = .int .i64 (j : Int) ∧ j ≤ an ∧ Below w.heap.size w wi) (fun i _ => an - (intOf i).toNat)
      case atStart => exact ⟨0, rfl, Nat.zero_le _, HBQ.out⟩
      case round =>
        obtain ⟨j, rfl, hj, hbi⟩ := hrel
        have e2 := bcell hbi HC2.out.1 hg
        have f2 := bcell hbi HC2.out.2 hg'
        have HBI := Lib.hid hbi
        clear hbi
        by_cases hltj : j < an
        · obtain ⟨x, hx⟩ : ∃ x, it.arms[j]? = some x := ⟨_, List.getElem?_eq_getElem (by rw [← HAN.out]; exact hltj)⟩
          obtain ⟨p, q, ia, im, ic, rfl, hp, ⟨d0, d1⟩, hr2⟩ := HAR.out.get HF.out hx
          obtain ⟨p', q', ia', im', ic', rfl, hp', ⟨d0', d1'⟩, hr2'⟩ := HAR'.out.get HG.out hx
          have g0 := bcell HBI.out d0 hp
          have g1 := bcell HBI.out d1 hp
          have h0 := bcell HBI.out d0' hp'
          have h1 := bcell HBI.out d1' hp'
          have HS : Hid (∀ X : World, Below w.heap.size w X → Calls Tryd.prog 26 #[.slice ia im ic, .slice ia' im' ic'] X (TruePost X)) := Lib.hid (fun X hX => HRS.out _ _ _ _ (HOR.out _ _ _ _ hr2 hX) (HOS.out _ _ _ _ hr2' hX))
          have hjI : (j : Int) < (an : Int) := by omega
          have hj0 : (0 : Int) ≤ (j : Int) := by omega
          clear hx hr2 hr2' d0 d1 d0' d1'
          go_wp2
          go_still_tail 38, (by kernel_rfl)
          change wpList _ _ _ _ _ wr.drew
          have HB2 : Hid (Below w.heap.size w wr.drew) := Lib.hid HBI.out.drew
          obtain ⟨w2, hw2⟩ : ∃ w2, wr.drew = w2 := ⟨_, rfl⟩
          rw [hw2] at HB2 ⊢
          clear hw2 e2 f2 g0 g1 h0 h1
          go_wp2_with (go_at_call 26; (with_reducible refine (HS.out _ HB2.out).mono ?_); rintro e w3 ⟨rfl, hb3⟩; have HB3 := Lib.hid hb3; clear hb3)
          go_roundw
          case rel => exact ⟨j + 1, by go_num, hltj, HB2.out.trans (HB3.out.mono HB2.out.size)⟩
          case measure => simp [intOf]; omega
        · have hjI : ¬ (j : Int) < (an : Int) := by omega
          go_wp2
          go_roundw
          case rel => exact ⟨k + 1, by go_num, hlt, HBI.out⟩
          case measure => simp [intOf]; omega
    · have hkI : ¬ (k : Int) < (n : Int) := by omega
      go_wp2
      go_ret
      exact ⟨rfl, hb⟩

theorem sameItems_any : ∀ (d e : Nat) (l : List Itm) (v v' : Value) (w : World), ItsAt d l v w → ItsAt e l v' w → Calls Tryd.prog 26 #[v, v'] w (TruePost w)
  | 0, 0, _, _, _, _, h, h' => sameItems_step (fun _ _ _ h => h.elim) (fun _ _ _ h => h.elim) (fun _ _ _ _ h _ => h.elim) (fun _ _ _ _ h _ => h.elim) (fun _ _ _ _ h _ => h.elim) h h'
  | 0, e + 1, _, _, _, _, h, h' => sameItems_step (fun _ _ _ h => h.elim) (itsAt_form e) (fun _ _ _ _ h _ => h.elim) (itsAt_over e) (fun _ _ _ _ h _ => h.elim) h h'
  | d + 1, 0, _, _, _, _, h, h' => sameItems_step (itsAt_form d) (fun _ _ _ h => h.elim) (itsAt_over d) (fun _ _ _ _ h _ => h.elim) (fun _ _ _ _ _ h => h.elim) h h'
  | d + 1, e + 1, _, _, _, _, h, h' => sameItems_step (itsAt_form d) (itsAt_form e) (itsAt_over d) (itsAt_over e) (fun l v v' w => sameItems_any d e l v v' w) h h'

end Go.Proofs.YtkmlnccdldmmpaaDoor

/-
  Rows of numbers that a call owns, as great as may be.
-/
namespace Go.Proofs.YtkmlnccdldmmpaaDoor
open Go.RowKit

def ivals (xs : List Int) : List Value := xs.map fun x => .int .i64 x
theorem ivals_app (a b : List Int) : ivals (a ++ b) = ivals a ++ ivals b := by simp [ivals]
theorem ivals_one (xs : List Int) : ∀ u ∈ ivals xs, u.oneCell' = true := by
  intro u hu
  obtain ⟨x, -, rfl⟩ := List.mem_map.1 hu
  rfl
theorem Tryd.infoNum : (Tryd.prog.info? 3).map (fun i => (i.zero, i.size, i.bytes)) = some (some (.int .i64 0), 1, 8) := by kernel_rfl

/-- Appended to a row of its own. -/
theorem ints_app {W w : World} {ty : TypeId} {v sv : Value} {n m : Nat} {xs ys : List Int} (h : Up W 3 1 v n (ivals xs) w) (hs : Src w sv m 1 (ivals ys)) (hn : n + m ≤ 17592186044416) :
    ∃ v' w', (Builtin.append_ #[54, 54] ty #[v, sv]).run Tryd.prog w = .ok v' w' ∧ Up W 3 1 v' (n + m) (ivals (xs ++ ys)) w' := by
  obtain ⟨i0, hi, hz0, hz1, hz2⟩ := info_parts Tryd.infoNum
  rw [ivals_app]
  rcases hs with ⟨rfl, rfl, hnil⟩ | ⟨ad, c, rfl, hl, hc⟩
  · rw [hnil, List.append_nil]
    exact ⟨v, w, run_append_owned_none (P := Tryd.prog) (w := w) W.heap.size 54 ty 3 i0 1 Tryd.underlying54 hi v n _ h.1, h.1, h.2⟩
  · obtain ⟨v', w', hr, h2, h3, -⟩ := run_append_own (P := Tryd.prog) w W.heap.size 54 ty 3 i0 (.int .i64 0) 1 8 Tryd.underlying54 hi hz0 hz1 hz2 rfl (by decide) v n _ h.1 ad m c (ivals ys) hl hc (ivals_one ys) (by unfold maxLen; omega) (by omega) h.2.size
    exact ⟨v', w', hr, h2, h.2.grown h3 h.2.size fun k hk => (World.ownsRow.lt h.1 k hk).1⟩
/-- .. where something is there behind it. -/
def IntsUp (W : World) (m : Nat) (zs : List Int) (b n cap : Nat) (w' : World) : Prop := n = m ∧ Up W 3 1 (.slice (some ⟨b, 0, none⟩) n cap) n (ivals zs) w'
theorem ints_ex {W w : World} {ty : TypeId} {v sv : Value} {n m : Nat} {xs ys : List Int} (h : Up W 3 1 v n (ivals xs) w) (hs : Src w sv m 1 (ivals ys)) (h0 : 0 < n + m) (hn : n + m ≤ 17592186044416) :
    ∃ b n' cap w', (Builtin.append_ #[54, 54] ty #[v, sv]).run Tryd.prog w = .ok (.slice (some ⟨b, 0, none⟩) n' cap) w' ∧ IntsUp W (n + m) (xs ++ ys) b n' cap w' := by
  obtain ⟨v', w', hr, hu⟩ := ints_app (ty := ty) h hs hn
  obtain ⟨b, cap, rfl⟩ := append_form hu.1 h0
  exact ⟨b, _, cap, w', hr, rfl, hu⟩
theorem ints_read {W w : World} {v : Value} {n : Nat} {xs : List Int} (h : Up W 3 1 v n (ivals xs) w) : IntsR xs v w := by
  obtain ⟨a, cap, hv, h1, h2, h3⟩ := row_form h.1
  have hl : xs.length = n := by
    have := h.1.1
    simpa [ivals] using this
  refine ⟨a, cap, by rw [hl]; exact hv, by omega, h2, fun j x hx => ?_⟩
  obtain ⟨g, ha, hg, hc⟩ := h3 j (.int .i64 x) (by unfold ivals; rw [List.getElem?_map, hx]; rfl)
  exact ⟨g, 0, ha, hg, by rw [Nat.zero_add]; exact hc⟩

def FlatPost (W : World) (ys : List Int) (e : Ending) (w' : World) : Prop := ∃ a n cap, e = .returned (.slice a n cap) ∧ n = ys.length ∧ Up W 3 1 (.slice a n cap) n (ivals ys) w'

end Go.Proofs.YtkmlnccdldmmpaaDoor

/-
  The project's builder: a stack of the conditions that are open, each with its arms, and what is told by lines.
-/
namespace Go.Proofs.YtkmlnccdldmmpaaDoor
open Go.RowKit

/-- Where a frame lies. -/
structure Fv where
  kd : Int
  A : List ((Int × List Itm) × Value)
  P : List (Itm × Value)
  ia : Option Addr
  im : Nat
  ic : Nat
  ab : Nat
  ac : Nat
def ccell (p : Fr × Fv) : List Value := [.int .i64 p.2.kd, .int .i64 (p.1.ln : Int), .slice (some ⟨p.2.ab, 0, none⟩) (p.2.A.length + 1) p.2.ac, .bool p.1.en]
def ccells (F : List (Fr × Fv)) : List Value := F.flatMap ccell
theorem ccells_snoc (F : List (Fr × Fv)) (p : Fr × Fv) : ccells (F ++ [p]) = ccells F ++ ccell p := by simp [ccells]
theorem ccells_len (F : List (Fr × Fv)) : (ccells F).length = F.length * 4 := by
  unfold ccells
  exact flat_len (n := 4) (fun _ => rfl) F

structure FrAt (c : Col) (B d j : Nat) (f : Fr) (x : Fv) (w : World) : Prop where
  ma : x.A.map Prod.fst = f.dn
  mp : x.P.map Prod.fst = f.cu
  kd : j ≠ 0 → x.kd = 2
  fa : x.A.length ≤ d
  fp : x.P.length ≤ d
  lev : LevAt c B 66 (3 * j + 3) d (.slice x.ia x.im x.ic) x.P w
  arm : ArmAt c B 68 (3 * j + 3) d x.A (f.la : Int) (.slice x.ia x.im x.ic) x.ab x.ac w
theorem FrAt.chg {c c' : Col} {B d j m : Nat} {f : Fr} {x : Fv} {w w' : World} (h : FrAt c B d j f x w) (s : Chg m c c' w w') (hm : m < 3 * j + 3 ∨ 3 * j + 5 < m) : FrAt c' B d j f x w' :=
  ⟨h.ma, h.mp, h.kd, h.fa, h.fp, h.lev.chg s (by omega) (by omega), h.arm.chg s (by omega) (by omega)⟩
theorem FrAt.more {c : Col} {B d j : Nat} {f : Fr} {x : Fv} {w : World} (h : FrAt c B d j f x w) : FrAt c B (d + 1) j f x w :=
  ⟨h.ma, h.mp, h.kd, Nat.le_succ_of_le h.fa, Nat.le_succ_of_le h.fp, h.lev.more, h.arm.more⟩

theorem FrAt.recol {c c' : Col} {B d j : Nat} {f : Fr} {x : Fv} {w : World} (h : FrAt c B d j f x w) (hc : ∀ g, 3 * j + 3 ≤ c g → c g ≤ 3 * j + 5 → c' g = c g) : FrAt c' B d j f x w :=
  ⟨h.ma, h.mp, h.kd, h.fa, h.fp, h.lev.recol (fun g hg => (hc g (by omega) (by omega)).trans hg) (fun g hg => (hc g (by omega) (by omega)).trans hg), h.arm.recol (fun g hg => (hc g (by omega) (by omega)).trans hg) (fun g hg => (hc g (by omega) (by omega)).trans hg)⟩

structure Bld (W : World) (bb : Nat) (c : Col) (d : Nat) (F : List (Fr × Fv)) (oa oc ca cn : Nat) (codes : List Int) (w : World) : Prop where
  bel : Below W.heap.size W w
  low : W.heap.size ≤ bb
  box : w.heap[bb]? = some (.cells #[.slice (some ⟨oa, 0, none⟩) F.length oc, .slice (some ⟨ca, 0, none⟩) cn cn] 120 (0, 0))
  cb : c bb = 0
  cod : RowC c 1 W.heap.size 3 1 (.slice (some ⟨ca, 0, none⟩) cn cn) cn (ivals codes) w
  opn : RowC c 2 W.heap.size 117 4 (.slice (some ⟨oa, 0, none⟩) F.length oc) F.length (ccells F) w
  few : F.length ≤ d + 1
  frs : ∀ j f x, F[j]? = some (f, x) → FrAt c W.heap.size d j f x w

section
variable {W : World} {bb : Nat} {c : Col} {d : Nat} {F : List (Fr × Fv)} {oa oc ca cn : Nat} {codes : List Int} {w : World}

theorem Bld.over (h : Bld W bb c d F oa oc ca cn codes w) {w' : World} (b : Below w.heap.size w w') : Bld W bb c d F oa oc ca cn codes w' :=
  ⟨h.bel.trans (b.mono h.bel.size), h.low, (b.block bb (row_lt h.box)).trans h.box, h.cb, h.cod.chg (Chg.below 0 c b) (by omega), h.opn.chg (Chg.below 0 c b) (by omega), h.few, fun j f x hj => (h.frs j f x hj).chg (Chg.below 0 c b) (by omega)⟩
theorem Bld.recol (h : Bld W bb c d F oa oc ca cn codes w) {c1 : Col} (hc : ∀ g, g < w.heap.size → c1 g = c g) : Bld W bb c1 d F oa oc ca cn codes w :=
  have s : ∀ k, Chg k c c1 w w := fun _ => ⟨Nat.le_refl _, hc, fun _ _ _ => rfl⟩
  ⟨h.bel, h.low, h.box, (hc bb (row_lt h.box)).trans h.cb, h.cod.chg (s 0) (by omega), h.opn.chg (s 0) (by omega), h.few, fun j f x hj => (h.frs j f x hj).chg (s 0) (by omega)⟩
theorem Bld.fresh (h : Bld W bb c d F oa oc ca cn codes w) : Bld W bb (freshC c w) d F oa oc ca cn codes w :=
  ⟨h.bel, h.low, h.box, ((Chg.fresh 0 c w).col bb (row_lt h.box)).trans h.cb, h.cod.chg (Chg.fresh 0 c w) (by omega), h.opn.chg (Chg.fresh 0 c w) (by omega), h.few, fun j f x hj => (h.frs j f x hj).chg (Chg.fresh 0 c w) (by omega)⟩
theorem Bld.b0 (h : Bld W bb c d F oa oc ca cn codes w) : w.cell? ⟨bb, 0, none⟩ = some (.slice (some ⟨oa, 0, none⟩) F.length oc) := by rw [Lib.cell_of_heap h.box]; rfl
theorem Bld.b1 (h : Bld W bb c d F oa oc ca cn codes w) : w.cell? ⟨bb, 1, none⟩ = some (.slice (some ⟨ca, 0, none⟩) cn cn) := by rw [Lib.cell_of_heap h.box]; rfl
theorem Bld.lt (h : Bld W bb c d F oa oc ca cn codes w) : bb < w.heap.size := row_lt h.box
theorem Bld.olt (h : Bld W bb c d F oa oc ca cn codes w) : oa < w.heap.size := (World.ownsRow.lt h.opn.1 oa rfl).2
theorem Bld.clt (h : Bld W bb c d F oa oc ca cn codes w) : ca < w.heap.size := (World.ownsRow.lt h.cod.1 ca rfl).2
theorem Bld.cap (h : Bld W bb c d F oa oc ca cn codes w) : F.length ≤ oc ∧ oc ≤ maxLen := by
  obtain ⟨a, cap, hv, h1, h2, -⟩ := row_form h.opn.1
  simp only [Value.slice.injEq, true_and] at hv
  obtain ⟨-, rfl⟩ := hv
  exact ⟨h1, h2⟩
theorem Bld.clen (h : Bld W bb c d F oa oc ca cn codes w) : codes.length = cn ∧ cn ≤ maxLen := by
  obtain ⟨a, cap, hv, h1, h2, -⟩ := row_form h.cod.1
  simp only [Value.slice.injEq, true_and] at hv
  obtain ⟨-, rfl⟩ := hv
  exact ⟨by have := h.cod.1.1; unfold ivals at this; simpa using this, h2⟩
theorem Bld.fr (h : Bld W bb c d F oa oc ca cn codes w) {F0 F1 : List (Fr × Fv)} {f : Fr} {x : Fv} (hF : F = F0 ++ (f, x) :: F1) : FrAt c W.heap.size d F0.length f x w := h.frs _ _ _ (by rw [hF]; simp)
theorem Bld.cell (h : Bld W bb c d F oa oc ca cn codes w) {F0 F1 : List (Fr × Fv)} {f : Fr} {x : Fv} (hF : F = F0 ++ (f, x) :: F1) {i : Nat} {u : Value} (hi : i < 4) (hu : (ccell (f, x))[i]? = some u) : w.cell? ⟨oa, F0.length * 4 + i, none⟩ = some u := by
  have h1 := h.opn.1.cellAt (F0.length * 4 + i) (by rw [hF]; simp; omega)
  rw [h1, hF]
  have := flat_get (f := ccell) (n := 4) (fun _ => rfl) (F0 ++ (f, x) :: F1) F0.length (f, x) (by simp) i hi
  exact this.trans hu
theorem FrAt.slot {B j : Nat} {f : Fr} {x : Fv} (h : FrAt c B d j f x w) : w.cell? ⟨x.ab, x.A.length * 2 + 1, none⟩ = some (.slice x.ia x.im x.ic) ∧ x.ab < w.heap.size := by
  have h1 := h.arm.row.1.cellAt (x.A.length * 2 + 1) (by omega)
  rw [List.getElem?_append_right (by rw [acells_len]; omega), acells_len, show x.A.length * 2 + 1 - x.A.length * 2 = 1 from by omega] at h1
  exact ⟨h1, (World.ownsRow.lt h.arm.row.1 x.ab rfl).2⟩
theorem FrAt.acap {B j : Nat} {f : Fr} {x : Fv} (h : FrAt c B d j f x w) : x.A.length + 1 ≤ x.ac ∧ x.ac ≤ maxLen := by
  obtain ⟨a, cap, hv, h1, h2, -⟩ := row_form h.arm.row.1
  simp only [Value.slice.injEq, true_and] at hv
  obtain ⟨-, rfl⟩ := hv
  exact ⟨h1, h2⟩
theorem FrAt.icap {B j : Nat} {f : Fr} {x : Fv} (h : FrAt c B d j f x w) : x.im = x.P.length ∧ x.im ≤ x.ic ∧ x.ic ≤ maxLen := by
  obtain ⟨a, cap, hv, h1, h2, -⟩ := row_form h.lev.row.1
  simp only [Value.slice.injEq] at hv
  obtain ⟨-, hm, rfl⟩ := hv
  exact ⟨hm, by omega, h2⟩

/-- The stack's cell at the top, written. -/
theorem ccells_put {F0 : List (Fr × Fv)} {p q : Fr × Fv} {i : Nat} {u : Value} (hi : i < 4) (hq : (ccell p).set i u = ccell q) : (ccells (F0 ++ [p])).set (F0.length * 4 + i) u = ccells (F0 ++ [q]) := by
  rw [ccells_snoc, ccells_snoc, List.set_append_right _ _ (by rw [ccells_len]; omega), ccells_len, show F0.length * 4 + i - F0.length * 4 = i from by omega, hq]

/-- What is told of a line. -/
theorem Bld.tell (h : Bld W bb c d F oa oc ca cn codes w) (i : Nat) (z : Int) : Bld W bb c d F oa oc ca cn (codes.set i z) (w.setCell ⟨ca, i, none⟩ (.int .i64 z)) := by
  have hc1 : c ca = 1 := h.cod.2 ca rfl
  have s := Chg.set c w ⟨ca, i, none⟩ (.int .i64 z)
  rw [hc1] at s
  refine ⟨h.bel.setCell (World.ownsRow.lt h.cod.1 ca rfl).1 _, h.low, (s.block bb h.lt (by rw [h.cb]; omega)).trans h.box, h.cb, ⟨?_, h.cod.2⟩, h.opn.chg s (by omega), h.few, fun j f x hj => (h.frs j f x hj).chg s (by omega)⟩
  have := own_setX h.cod.1 i (.int .i64 z)
  unfold ivals at this ⊢
  rw [List.map_set]
  exact this

/-- An item more in the innermost arm. -/
theorem Bld.add {F0 : List (Fr × Fv)} {f : Fr} {x : Fv} (h : Bld W bb c d (F0 ++ [(f, x)]) oa oc ca cn codes w) {w' : World} {c' : Col} {it : Itm} {av : Value} {b n' cap' : Nat}
    (hl : LevAt c' W.heap.size 66 (3 * F0.length + 3) d (.slice (some ⟨b, 0, none⟩) n' cap') (x.P ++ [(it, av)]) w') (s : Chg (3 * F0.length + 3 + 1) c c' w w') (hb : Below W.heap.size w w') :
    Bld W bb c' (d + 1) (F0 ++ [({ f with cu := f.cu ++ [it] }, { x with P := x.P ++ [(it, av)], ia := some ⟨b, 0, none⟩, im := n', ic := cap' })]) oa oc ca cn codes (w'.setCell ⟨x.ab, x.A.length * 2 + 1, none⟩ (.slice (some ⟨b, 0, none⟩) n' cap')) := by
  have hf := h.fr (F1 := []) rfl
  have hab : c x.ab = 3 * F0.length + 3 := hf.arm.row.2 x.ab rfl
  have hlt := hf.slot.2
  have hab' : c' x.ab = 3 * F0.length + 3 := (s.col _ hlt).trans hab
  have s2 := Chg.set c' w' ⟨x.ab, x.A.length * 2 + 1, none⟩ (.slice (some ⟨b, 0, none⟩) n' cap')
  rw [hab'] at s2
  have hlow : W.heap.size ≤ x.ab := (World.ownsRow.lt hf.arm.row.1 x.ab rfl).1
  have harm := (hf.arm.chg s (by omega) (by omega)).put (by rw [hab']; omega) (.slice (some ⟨b, 0, none⟩) n' cap')
  refine ⟨(h.bel.trans hb).setCell hlow _, h.low, ?_, (s.col bb h.lt).trans h.cb, (h.cod.chg s (by omega)).chg s2 (by omega), ?_, ?_, fun j f' x' hj => ?_⟩
  · rw [s2.block bb (Nat.lt_of_lt_of_le h.lt s.size) (by rw [s.col bb h.lt, h.cb]; omega), s.block bb h.lt (by rw [h.cb]; omega), h.box]
    simp
  · have := (h.opn.chg s (by omega)).chg s2 (by omega)
    rw [ccells_snoc] at this ⊢
    simp only [List.length_append, List.length_cons, List.length_nil] at this ⊢
    exact this
  · have := h.few
    simp at this ⊢
    omega
  · rcases Nat.lt_or_ge j F0.length with hlt' | hge
    · rw [List.getElem?_append_left hlt'] at hj
      have := h.frs j f' x' (by rw [List.getElem?_append_left hlt']; exact hj)
      exact ((this.chg s (by omega)).chg s2 (by omega)).more
    · rw [List.getElem?_append_right hge] at hj
      obtain ⟨hj0, hp⟩ : j - F0.length = 0 ∧ _ := by
        rcases Nat.eq_zero_or_pos (j - F0.length) with h0 | h0
        · exact ⟨h0, hj⟩
        · rw [List.getElem?_eq_none (by simp; omega)] at hj; cases hj
      rw [hj0] at hp
      simp only [List.getElem?_cons_zero, Option.some.injEq, Prod.mk.injEq] at hp
      obtain ⟨rfl, rfl⟩ := hp
      obtain rfl : j = F0.length := by omega
      refine ⟨hf.ma, by simp [hf.mp], hf.kd, Nat.le_succ_of_le hf.fa, by have := hf.fp; simp; omega, (hl.chg s2 (by omega) (by omega)).more, harm.more⟩
end

end Go.Proofs.YtkmlnccdldmmpaaDoor
