/-
  Texts of the proof, put together: GrRawL, LxLift, DkRead.
-/
import Derived.Test.YtkmlnccdldmmpaaDoorG44
import Derived.Test.YtkmlnccdldmmpaaDoorG45
import Derived.Test.YtkmlnccdldmmpaaDoorG46
import Derived.Test.YtkmlnccdldmmpaaDoorG47
import Derived.Test.YtkmlnccdldmmpaaDoorG22
import Derived.Test.YtkmlnccdldmmpaaDoorG01
import Derived.ProofKit
import Derived.OpenShut
import Derived.ChangeMaps5
import Derived.Below
import Derived.Carry
import Derived.SliceStrings
import Derived.Test.YtkmlnccdldmmpaaDoorG43
import Derived.Deep.Slices
import Derived.Deep.Fields
import Derived.LaidLaws
import Derived.MakeChecks

/-
  GroupsRaw, walked, over what Flat, Depth and awake of the program answer.
-/
namespace Go.Proofs.YtkmlnccdldmmpaaDoor
open Go.RowKit

/-- No deeper than it is. -/
theorem its_fit : ∀ (e d : Nat) (l : List Itm) (v : Value) (w : World), ItsAt d l v w → Fits e l → ItsAt e l v w
  | 0, d, l, v, w, h, hf => by
    have key : ∀ R : RelI, ItsOf R l v w → ItsOf (fun _ _ _ => False) l v w := fun R h => by
      obtain ⟨a, cap, hv, h1, h2, h3⟩ := h
      refine ⟨a, cap, hv, h1, h2, fun k it hit => ?_⟩
      obtain ⟨g, o, ha, hg, av, hc, a', cap', hv', h1', h2', -⟩ := h3 k it hit
      have hn := hf it (List.mem_of_getElem? hit)
      exact ⟨g, o, ha, hg, av, hc, a', cap', hv', h1', h2', fun j x hx => by rw [hn] at hx; simp at hx⟩
    cases d with
    | zero => exact h
    | succ d => exact key _ h
  | e + 1, d, l, v, w, h, hf => by
    have key : ∀ R : RelI, (∀ l v w, R l v w → Fits e l → ItsAt e l v w) → ItsOf R l v w → ItsOf (ItsAt e) l v w := fun R hR h => by
      obtain ⟨a, cap, hv, h1, h2, h3⟩ := h
      refine ⟨a, cap, hv, h1, h2, fun k it hit => ?_⟩
      obtain ⟨g, o, ha, hg, av, hc, a', cap', hv', h1', h2', h3'⟩ := h3 k it hit
      refine ⟨g, o, ha, hg, av, hc, a', cap', hv', h1', h2', fun j x hx => ?_⟩
      obtain ⟨g', o', ha', hg', iv, hc', hr⟩ := h3' j x hx
      exact ⟨g', o', ha', hg', iv, hc', hR _ _ _ hr (hf it (List.mem_of_getElem? hit) x (List.mem_of_getElem? hx))⟩
    cases d with
    | zero => exact key _ (fun _ _ _ h => h.elim) h
    | succ d => exact key _ (fun l v w h hf => its_fit e d l v w h hf) h
theorem light_fits : ∀ (d m : Nat) (l : List Itm) (dp : Nat), Fits d l → dp + m = 7 → lightF d l dp = true → Fits m l
  | 0, 0, l, dp, hf, _, _ => hf
  | 0, m + 1, l, dp, hf, _, _ => fun it hit a ha => by rw [hf it hit] at ha; cases ha
  | d + 1, 0, l, dp, _, hm, h => by
    obtain ⟨-, h2, -⟩ := lightL_is (G := lightF d) h
    omega
  | d + 1, m + 1, l, dp, hf, hm, h => by
    obtain ⟨-, -, h3⟩ := lightL_is (G := lightF d) h
    exact fun it hit a ha => light_fits d m a.2 (dp + 1) (hf it hit a ha) (by omega) ((h3 it hit).2 a ha)
theorem fits_up {d e : Nat} (hde : d ≤ e) {l : List Itm} (h : Fits d l) : Fits e l := by
  induction hde with
  | refl => exact h
  | step _ ih => exact fits_more _ _ ih
theorem flat_stable {d e : Nat} (hde : d ≤ e) {l : List Itm} (h : Fits d l) : flatF e l = flatF d l := by
  induction hde with
  | refl => rfl
  | step hde ih => rw [flat_more _ _ (fits_up hde h), ih]

/-- Light items, at a depth of seven. -/
theorem light_seven {d : Nat} {l : List Itm} {v : Value} {w : World} (h : ItsAt d l v w) (hl : lightF d l 0 = true) : Fits 7 l ∧ (flatF 7 l).length ≤ 17592186044416 := by
  have hf := its_fits d l v w h
  have h7 := light_fits d 7 l 0 hf rfl hl
  refine ⟨h7, ?_⟩
  have hb := light_big hl
  rcases Nat.le_total d 7 with hd | hd
  · rw [flat_stable hd hf]
    exact hb
  · rw [← flat_stable hd h7]
    exact hb

set_option maxRecDepth 100000 in
set_option maxHeartbeats 3200000 in
theorem raw_law {W : World} (hA : ∀ X : World, Below W.heap.size W X → Calls Tryd.prog 21 #[] X (TruePost X))
    (hFl : ∀ (l : List Itm) (v : Value) (X : World), Below W.heap.size W X → ItsAt 7 l v X → (flatF 7 l).length ≤ 17592186044416 → Calls Tryd.prog 30 #[v] X (FlatPost X (flatF 7 l)))
    (hDp : ∀ (l : List Itm) (v : Value) (X : World), Below W.heap.size W X → ItsAt 7 l v X → (flatF 7 l).length ≤ 17592186044416 → Calls Tryd.prog 32 #[v] X (IntNew ((deepF 7 l : Nat) : Int) X))
    {d : Nat} {l : List Itm} {v : Value} (h : ItsAt d l v W) : Calls Tryd.prog 9 #[v] W (TruePost W) := by
  obtain ⟨a, n, cap, rfl, -⟩ := itsAt_form d _ _ _ h
  have HL : Hid (Calls Tryd.prog 34 #[.slice a n cap, .int .i64 0] W (BoolPost (lightF d l 0) W)) := Lib.hid (light_any d l _ W 0 h (by omega))
  have HA := Lib.hid hA
  by_cases hl : lightF d l 0 = true
  · rw [hl] at HL
    obtain ⟨h7, hb⟩ := light_seven h hl
    have HR := Lib.hid (raw_any d l _ W h (light_small d l 0 hl))
    have HRF : Hid (∀ X : World, Below W.heap.size W X → Calls Tryd.prog 31 #[.slice a n cap] X (FlatPost X (flatF 7 l))) := Lib.hid (fun X b => rflat_any 7 l _ X (its_fit 7 d l _ X (itsAt_over d _ _ _ _ h b) h7) hb)
    have HRD : Hid (∀ X : World, Below W.heap.size W X → Calls Tryd.prog 33 #[.slice a n cap] X (NatPost (deepF 7 l) X)) := Lib.hid (fun X b => rdepth_any 7 l _ X (by omega) (its_fit 7 d l _ X (itsAt_over d _ _ _ _ h b) h7))
    have HFL := Lib.hid (fun v X b (hx : ItsAt 7 l v X) => hFl l v X b hx hb)
    have HDP := Lib.hid (fun v X b (hx : ItsAt 7 l v X) => hDp l v X b hx hb)
    have HDN : Hid (∀ v X, ItsP (Iv W.heap.size X.heap.size) d l v X → ItsAt 7 l v X) := Lib.hid (fun v X hp => its_fit 7 d l v X (itsP_at _ d l v X hp) h7)
    obtain ⟨N, hN⟩ : ∃ N : Int, ((deepF 7 l : Nat) : Int) = N := ⟨_, rfl⟩
    have HND : Hid (∀ X : World, Below W.heap.size W X → Calls Tryd.prog 33 #[.slice a n cap] X (fun e w' => e = .returned (.int .i64 N) ∧ X = w')) := Lib.hid (fun X b => (HRD.out X b).mono fun e w' ⟨h1, h2⟩ => ⟨by rw [h1, hN], h2⟩)
    rw [hN] at HDP
    have hk : (N == N) = true := by simp
    clear h hl h7 hb hA hFl hDp hN HRD
    go_enter Tryd.func9, Tryd.ntmps9
    go_wp2_with (first
      | (go_at_call 34; (with_reducible refine HL.out.mono ?_); rintro e w' ⟨rfl, rfl⟩)
      | (go_at_call 35; (with_reducible refine HR.out.mono ?_); rintro e w1 ⟨ra, rn, rc, rfl, hp, hb⟩; have HI1 := Lib.hid (HDN.out _ _ hp); have HB1 := Lib.hid hb; clear hp hb)
      | (go_at_call 30; (with_reducible refine (HFL.out _ _ HB1.out HI1.out).mono ?_); rintro e w2 ⟨fa, fn, fc, rfl, -, hu⟩; have HU2 := Lib.hid (ints_read hu); have HB2 := Lib.hid (below_up HB1.out hu.2); have HI2 := Lib.hid (itsAt_over 7 _ _ _ _ HI1.out hu.2); clear hu)
      | (go_at_call 31; (with_reducible refine (HRF.out _ HB2.out).mono ?_); rintro e w3 ⟨ga, gn, gc, rfl, -, hu⟩; have HS3 := Lib.hid (ints_any (HU2.out.over hu.2) (ints_read hu)); have HB3 := Lib.hid (below_up HB2.out hu.2); have HI3 := Lib.hid (itsAt_over 7 _ _ _ _ HI2.out hu.2); clear hu)
      | (go_at_call 29; (with_reducible refine HS3.out.mono ?_); rintro e w4 ⟨rfl, hb⟩; have HB4 := Lib.hid (below_up HB3.out hb); have HI4 := Lib.hid (itsAt_over 7 _ _ _ _ HI3.out hb); clear hb)
      | (go_at_call 32; (with_reducible refine (HDP.out _ _ HB4.out HI4.out).mono ?_); rintro e w5 ⟨rfl, hb⟩; have HB5 := Lib.hid (below_up HB4.out hb); clear hb)
      | (go_at_call 33; (with_reducible refine (HND.out _ HB5.out).mono ?_); rintro e w6 ⟨rfl, rfl⟩)
      | (go_at_call 21; (with_reducible refine (HA.out _ HB5.out).mono ?_); rintro e w7 ⟨rfl, hb⟩; have HB7 := Lib.hid (below_up HB5.out hb); clear hb))
    go_ret
    exact ⟨rfl, HB7.out⟩
  · have hl' : lightF d l 0 = false := by simpa using hl
    rw [hl'] at HL
    clear h hl hl' hA hFl hDp
    go_enter Tryd.func9, Tryd.ntmps9
    go_wp2_with (first
      | (go_at_call 34; (with_reducible refine HL.out.mono ?_); rintro e w' ⟨rfl, rfl⟩)
      | (go_at_call 21; (with_reducible refine (HA.out _ (Below.refl _ _)).mono ?_); rintro e w7 ⟨rfl, hb⟩; have HB7 := Lib.hid hb; clear hb))
    go_ret
    exact ⟨rfl, HB7.out⟩

end Go.Proofs.YtkmlnccdldmmpaaDoor

/-
  From a law's walk to its statement: each argument reads behind the call as it did.
-/
namespace Go.Proofs.YtkmlnccdldmmpaaDoor
open Go.ChangeShapes Go.WideShapes Go.ChangeAt Go.RowKit

theorem lift_own : ownKnob Tryd.prog.godebug = none := by kernel_rfl
theorem lift_laid : laidOutB Tryd.prog = true := by kernel_rfl

/-- The post of a law that writes nothing that it was given, and says nothing of reading again. -/
theorem post_keep {H : Type} {enc : TypeId × Value → H} {P : Program} {f : Func} {s : ChangeSpec} {apart fresh handsOn : Bool} {W W' : World} {args : Array Value} {v : Value} {ds gs : List (DataW H)} {before pa : List MemPlace}
    (hW : DataW.Whole enc P f.params.toList s.vars apart W args.toList ds gs before)
    (hres : ∀ (b : Nat) (sp : Nat → Bool) (hd : Bool), DataW.TrodAll enc P W' b sp hd f.resultTypes.toList (v.resultList f.resultTypes.size) (s.fn H (ds ++ gs)).results [])
    (hargs : DataW.TrodAll enc P W' 0 (fun b => decide (b < W.heap.size)) true f.params.toList args.toList (s.fn H (ds ++ gs)).args pa)
    (hvars : ∀ sp : Nat → Bool, DataW.TrodVars enc P W' sp s.vars (s.fn H (ds ++ gs)).vars []) (hb : Below W.heap.size W W') :
    s.post enc P f apart fresh handsOn false W args v W' :=
  ⟨ds, gs, before, [], pa, [], hW, hres _ _ _, hargs, hvars _, hb.frame _, fun h => by cases h⟩

end Go.Proofs.YtkmlnccdldmmpaaDoor

/-
  Tokens that came in, as the laws read them; and the table of words, as it lies when a call begins.
-/
namespace Go.Proofs.YtkmlnccdldmmpaaDoor
open Go.ChangeShapes Go.WideShapes Go.ChangeAt Go.RowKit Go.ChangeMaps

theorem lift_cellTok : Tryd.prog.cellsOf 36 = 8 := by kernel_rfl
theorem lift_cellSit : Tryd.prog.cellsOf 110 = 5 := by kernel_rfl
theorem lift_cellSpan : Tryd.prog.cellsOf 33 = 3 := by kernel_rfl
theorem lift_cellSl : Tryd.prog.cellsOf 34 = 1 := by kernel_rfl
theorem lift_cellInt : Tryd.prog.cellsOf 3 = 1 := by kernel_rfl
theorem lift_cellStr : Tryd.prog.cellsOf 9 = 1 := by kernel_rfl
theorem lift_cellBool : Tryd.prog.cellsOf 4 = 1 := by kernel_rfl

theorem read_spot {W : World} {a : Addr} {v : Value} (h : W.cell? a = some v) : ∃ g o, a = ⟨g, o, none⟩ ∧ g < W.heap.size := by
  obtain ⟨g, o, sp⟩ := a
  have hsp : sp = none := by simpa using World.cell?_spot h
  subst hsp
  exact ⟨g, o, rfl, World.block_lt_of_cell? W _ h⟩

section
variable {H : Type} {enc : TypeId × Value → H} {W : World} {base : Nat} {sp : Nat → Bool} {held : Bool} {fuel : Nat}

set_option maxRecDepth 100000 in
theorem read_span {cs : List Value} {x : DataW H × List MemPlace} (h : DataW.trod enc Tryd.prog W base sp held fuel 33 cs = some x) : ∃ (s : ByteArray) (f t : Int), cs = [.string s, .int .i64 f, .int .i64 t] := by
  obtain ⟨ys, n', -, -, hcl, hyl, hf⟩ := DataW.trod_struct Tryd.underlying33 h
  rw [lift_cellSpan] at hcl
  match cs, hcl with
  | [c0, c1, c2], _ =>
    match ys, hyl with
    | [y0, y1, y2], _ =>
      have f0 := hf 0 _ rfl
      have f1 := hf 1 _ rfl
      have f2 := hf 2 _ rfl
      simp [lift_cellInt, lift_cellStr] at f0 f1 f2
      obtain ⟨s0, e0, -, -⟩ := DataW.trod_string Tryd.underlying9 f0
      obtain ⟨n1, e1, -, -⟩ := DataW.trod_int Tryd.underlying3 f1
      obtain ⟨n2, e2, -, -⟩ := DataW.trod_int Tryd.underlying3 f2
      simp only [List.cons.injEq, and_true] at e0 e1 e2
      subst e0 e1 e2
      exact ⟨s0, n1, n2, rfl⟩

set_option maxRecDepth 100000 in
theorem read_site {cs : List Value} {x : DataW H × List MemPlace} (h : DataW.trod enc Tryd.prog W base sp held fuel 110 cs = some x) : ∃ s : Xs, cs = scell s := by
  obtain ⟨ys, n', -, -, hcl, hyl, hf⟩ := DataW.trod_struct Tryd.underlying110 h
  rw [lift_cellSit] at hcl
  match cs, hcl with
  | [c0, c1, c2, c3, c4], _ =>
    match ys, hyl with
    | [y0, y1, y2], _ =>
      have f0 := hf 0 _ rfl
      have f1 := hf 1 _ rfl
      have f2 := hf 2 _ rfl
      simp [lift_cellSpan, lift_cellStr, lift_cellBool] at f0 f1 f2
      obtain ⟨s0, e0, -, -⟩ := DataW.trod_string Tryd.underlying9 f0
      obtain ⟨s1, n1, n2, e1⟩ := read_span f1
      obtain ⟨b2, e2, -⟩ := DataW.trod_bool Tryd.underlying4 f2
      simp only [List.cons.injEq, and_true] at e0 e1 e2
      obtain ⟨rfl, rfl, rfl⟩ := e1
      subst e0 e2
      exact ⟨⟨s0, s1, n1, n2, b2⟩, rfl⟩

set_option maxRecDepth 100000 in
theorem read_sites {a : Option Addr} {len cap : Nat} {x : DataW H × List MemPlace} (h : DataW.trod enc Tryd.prog W base sp held fuel 34 [.slice a len cap] = some x) : ∃ S : List Xs, SitsA S (.slice a len cap) W := by
  rcases Go.Deep.open_slice Tryd.underlying34 h with ⟨hcs, -⟩ | ⟨a0, len', cap', m, fu, D, Pl, hcs, -, hl, hm, hmm, -, hi⟩
  · simp only [List.cons.injEq, Value.slice.injEq, and_true] at hcs
    obtain ⟨rfl, rfl, rfl⟩ := hcs
    exact ⟨[], sits_nil W⟩
  · simp only [List.cons.injEq, Value.slice.injEq, and_true] at hcs
    obtain ⟨rfl, rfl, rfl⟩ := hcs
    have hlm : len ≤ m := by
      rw [hmm]
      split <;> omega
    have hz : 0 < len → ∃ g o, a0 = ⟨g, o, none⟩ ∧ g < W.heap.size := fun h0 => by
      obtain ⟨cs', hc, ht'⟩ := hi 0 (by omega)
      rw [lift_cellSit] at hc
      obtain ⟨-, hcl, hat⟩ := World.cells?_some hc
      obtain ⟨s, rfl⟩ := read_site ht'
      have g0 := hat 0 (by omega)
      rw [Go.Deep.add_add, show a0.add (0 * 5 + 0) = a0 from by simp [Addr.add]] at g0
      exact read_spot g0
    obtain ⟨S, hSl, hSp⟩ := pick_list (fun i (s : Xs) => ∃ g o, a0 = ⟨g, o, none⟩ ∧ g < W.heap.size ∧ SitA s g (o + i * 5) W) len (fun i hil => by
      obtain ⟨cs', hc, ht'⟩ := hi i (by omega)
      rw [lift_cellSit] at hc
      obtain ⟨-, hcl, hat⟩ := World.cells?_some hc
      obtain ⟨s, rfl⟩ := read_site ht'
      have g0 := hat 0 (by omega)
      have g1 := hat 1 (by omega)
      have g2 := hat 2 (by omega)
      have g3 := hat 3 (by omega)
      have g4 := hat 4 (by omega)
      rw [Go.Deep.add_add] at g0 g1 g2 g3 g4
      obtain ⟨g, o0, rfl, hg⟩ := hz (by omega)
      rw [addr_off] at g0 g1 g2 g3 g4
      exact ⟨s, g, o0, rfl, hg, g0, g1, g2, g3, g4⟩)
    refine ⟨S, some a0, cap, by rw [hSl], by omega, hm, fun k s hs => ?_⟩
    obtain ⟨g, o, ha, hg, hc⟩ := hSp k s hs
    exact ⟨g, o, by rw [ha], hg, hc⟩

set_option maxRecDepth 100000 in
theorem read_token {cs : List Value} {x : DataW H × List MemPlace} (h : DataW.trod enc Tryd.prog W base sp held fuel 36 cs = some x) : ∃ (t : Xt) (sv : Value), cs = xcell (t, sv) ∧ SitsA t.ss sv W := by
  obtain ⟨ys, n', -, -, hcl, hyl, hf⟩ := DataW.trod_struct Tryd.underlying36 h
  rw [lift_cellTok] at hcl
  match cs, hcl with
  | [c0, c1, c2, c3, c4, c5, c6, c7], _ =>
    match ys, hyl with
    | [y0, y1, y2, y3, y4, y5], _ =>
      have f0 := hf 0 _ rfl
      have f1 := hf 1 _ rfl
      have f2 := hf 2 _ rfl
      have f3 := hf 3 _ rfl
      have f4 := hf 4 _ rfl
      have f5 := hf 5 _ rfl
      simp [lift_cellSpan, lift_cellStr, lift_cellBool, lift_cellInt, lift_cellSl] at f0 f1 f2 f3 f4 f5
      obtain ⟨n0, e0, -, -⟩ := DataW.trod_int Tryd.underlying3 f0
      obtain ⟨s1, e1, -, -⟩ := DataW.trod_string Tryd.underlying9 f1
      obtain ⟨b2, e2, -⟩ := DataW.trod_bool Tryd.underlying4 f2
      obtain ⟨s3, n3, m3, e3⟩ := read_span f3
      obtain ⟨b4, e4, -⟩ := DataW.trod_bool Tryd.underlying4 f4
      have hs5 : ∃ a len cap, c7 = .slice a len cap := by
        rcases Go.Deep.open_slice Tryd.underlying34 f5 with ⟨hcs, -⟩ | ⟨a0, len', cap', m, fu, D, Pl, hcs, -⟩
        · simp only [List.cons.injEq, and_true] at hcs
          exact ⟨_, _, _, hcs⟩
        · simp only [List.cons.injEq, and_true] at hcs
          exact ⟨_, _, _, hcs⟩
      obtain ⟨a5, len5, cap5, rfl⟩ := hs5
      obtain ⟨S, hS⟩ := read_sites f5
      simp only [List.cons.injEq, and_true] at e0 e1 e2 e3 e4
      obtain ⟨rfl, rfl, rfl⟩ := e3
      subst e0 e1 e2 e4
      exact ⟨⟨n0, s1, b2, s3, n3, m3, b4, S⟩, _, rfl, hS⟩

set_option maxRecDepth 100000 in
theorem read_toks {a : Option Addr} {len cap : Nat} {x : DataW H × List MemPlace} (h : DataW.trod enc Tryd.prog W base sp held fuel 22 (Value.cells (.slice a len cap)).toList = some x) : ∃ T : List Xt, ToksX T (.slice a len cap) W := by
  rcases Go.Deep.open_slice Tryd.underlying22 h with ⟨hcs, -⟩ | ⟨a0, len', cap', m, fu, D, Pl, hcs, -, hl, hm, hmm, -, hi⟩
  · simp [Value.cells] at hcs
    obtain ⟨rfl, rfl, rfl⟩ := hcs
    exact ⟨[], toksX_nil W⟩
  · simp [Value.cells] at hcs
    obtain ⟨rfl, rfl, rfl⟩ := hcs
    have hlm : len ≤ m := by
      rw [hmm]
      split <;> omega
    have hz : 0 < len → ∃ g o, a0 = ⟨g, o, none⟩ ∧ g < W.heap.size := fun h0 => by
      obtain ⟨cs', hc, ht'⟩ := hi 0 (by omega)
      rw [lift_cellTok] at hc
      obtain ⟨-, hcl, hat⟩ := World.cells?_some hc
      obtain ⟨t, sv, rfl, hs⟩ := read_token ht'
      have g0 := hat 0 (by omega)
      rw [Go.Deep.add_add, show a0.add (0 * 8 + 0) = a0 from by simp [Addr.add]] at g0
      exact read_spot g0
    obtain ⟨T, hTl, hTp⟩ := pick_list (fun i (t : Xt) => ∃ g o, a0 = ⟨g, o, none⟩ ∧ g < W.heap.size ∧ ∃ sv, TokX t sv g (o + i * 8) W ∧ SitsA t.ss sv W) len (fun i hil => by
      obtain ⟨cs', hc, ht'⟩ := hi i (by omega)
      rw [lift_cellTok] at hc
      obtain ⟨-, hcl, hat⟩ := World.cells?_some hc
      obtain ⟨t, sv, rfl, hs⟩ := read_token ht'
      have g0 := hat 0 (by omega)
      have g1 := hat 1 (by omega)
      have g2 := hat 2 (by omega)
      have g3 := hat 3 (by omega)
      have g4 := hat 4 (by omega)
      have g5 := hat 5 (by omega)
      have g6 := hat 6 (by omega)
      have g7 := hat 7 (by omega)
      rw [Go.Deep.add_add] at g0 g1 g2 g3 g4 g5 g6 g7
      obtain ⟨g, o0, rfl, hg⟩ := hz (by omega)
      rw [addr_off] at g0 g1 g2 g3 g4 g5 g6 g7
      exact ⟨t, g, o0, rfl, hg, sv, ⟨g0, g1, g2, g3, g4, g5, g6, g7⟩, hs⟩)
    refine ⟨T, some a0, cap, by rw [hTl], by omega, hm, fun k t ht => ?_⟩
    obtain ⟨g, o, ha, hg, sv, hc⟩ := hTp k t ht
    exact ⟨g, o, by rw [ha], hg, sv, hc⟩
end

/-- An array of texts. -/
theorem cells_strs {H : Type} {enc : TypeId × Value → H} {w : World} {base : Nat} {sp : Nat → Bool} {held : Bool} {fuel : Nat} {t e : TypeId} {n : Nat} {cs : List Value} {zs : List (List UInt8)} {p : List MemPlace}
    (ht : Tryd.prog.underlying t = some (.array n e)) (he : Tryd.prog.underlying e = some .string) (hce : Tryd.prog.cellsOf e = 1)
    (h : DataW.trod enc Tryd.prog w base sp held fuel t cs = some (DataW.agg (zs.map fun z => (DataW.lit (Lit.string z) : DataW H)), p)) : ∀ (i : Nat) (z : List UInt8), zs[i]? = some z → cs[i]? = some (.string ⟨z.toArray⟩) := by
  obtain ⟨xs, m, -, hx, hcl, hxl, hat⟩ := DataW.trod_array ht h
  intro i z hz
  have hxs : xs.map (·.1) = zs.map fun z => (DataW.lit (.string z) : DataW H) := by
    have := congrArg Prod.fst hx
    simpa using this.symm
  have hi : i < n := by
    have h1 := (List.getElem?_eq_some_iff.1 hz).1
    have h2 := congrArg List.length hxs
    simp at h2
    omega
  have h1 := hat i hi
  rw [hce, Nat.mul_one] at h1
  have h2 : (xs.map (·.1))[i]? = some (DataW.lit (.string z)) := by
    rw [hxs, List.getElem?_map, hz]
    rfl
  rw [List.getElem?_map, Option.map_eq_some_iff] at h2
  obtain ⟨y, hy, hy1⟩ := h2
  rw [hy] at h1
  obtain ⟨s, hs, hys, -⟩ := DataW.trod_string he h1
  rw [hys] at hy1
  simp only [DataW.lit.injEq, Lit.string.injEq] at hy1
  have h3 : cs[i]? = some (.string s) := by
    have := congrArg (·[0]?) hs
    simpa [List.getElem?_take, List.getElem?_drop] using this
  rw [h3, ← hy1]

end Go.Proofs.YtkmlnccdldmmpaaDoor
