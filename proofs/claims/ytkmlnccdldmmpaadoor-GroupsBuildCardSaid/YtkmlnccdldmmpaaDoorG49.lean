/-
  Texts of the proof, put together: LGBuild, LxLift, DkRead, GcCard.
-/
import Derived.Test.YtkmlnccdldmmpaaDoorG39
import Derived.Test.YtkmlnccdldmmpaaDoorG48
import Derived.Test.YtkmlnccdldmmpaaDoorG16
import Derived.Test.YtkmlnccdldmmpaaDoorG36
import Derived.Test.YtkmlnccdldmmpaaDoorG01
import Derived.ProofKit
import Derived.OpenShut
import Derived.ChangeMaps5
import Derived.Below
import Derived.Carry
import Derived.SliceStrings
import Derived.Deep.Slices
import Derived.Deep.Fields
import Derived.LaidLaws
import Derived.MakeChecks
import Derived.Test.YtkmlnccdldmmpaaDoorRows

/-
  GroupsBuild, walked.
-/
namespace Go.Proofs.YtkmlnccdldmmpaaDoor
open Go.RowKit

def BackPost (w : World) (l : List Itm) (d : Nat) (e : Ending) (w' : World) : Prop := ∃ a n c, e = .returned (.slice a n c) ∧ ItsAt d l (.slice a n c) w' ∧ Below w.heap.size w w'
theorem items_back {d : Nat} {l : List Itm} {v : Value} {w : World} (h : ItsAt d l v w) (hf : (flatIts l).length ≤ 500000) : Calls Tryd.prog 27 #[v] w (BackPost w l d) :=
  (items_any d l v w h (its_small h hf)).mono fun _ _ ⟨a, n, c, he, h1, h2⟩ => ⟨a, n, c, he, itsP_at _ _ _ _ _ h1, h2⟩
theorem gdepth_mx {d : Nat} {l : List Itm} {v : Value} {w : World} (h : ItsAt d l v w) (hd : d ≤ 500000) (hf : (flatIts l).length ≤ 500000) : Calls Tryd.prog 32 #[v] w (IntNew ((mxD (evIts 0 l) 0 : Nat) : Int) w) := by
  rw [mx_deep (its_fits d l v w h)]
  exact gdepth_any h (by omega) (by omega)
theorem rdepth_mx {d : Nat} {l : List Itm} {v : Value} {w : World} (h : ItsAt d l v w) (hd : d ≤ 500000) : Calls Tryd.prog 33 #[v] w (NatPost (mxD (evIts 0 l) 0) w) := by
  rw [mx_deep (its_fits d l v w h)]
  exact rdepth_any d l v w (by omega) h
theorem rflat_flat {d : Nat} {l : List Itm} {v : Value} {w : World} (h : ItsAt d l v w) (hf : (flatIts l).length ≤ 500000) : Calls Tryd.prog 31 #[v] w (FlatPost w (flatIts l)) := by
  have := rflat_any d l v w h (by rw [its_flat h]; omega)
  rw [its_flat h] at this
  exact this

set_option maxRecDepth 100000 in
set_option maxHeartbeats 6400000 in
theorem build_law (s : ByteArray) (W : World) (hs : s.size ≤ maxLen) (hW : WordsAt 0 W) (h0 : 0 < W.heap.size) :
    Calls Tryd.prog 6 #[.string s] W (TruePost W) := by
  unfold maxLen at hs
  have HA : Hid (∀ X : World, Below W.heap.size W X → Calls Tryd.prog 21 #[] X (TruePost X)) := Lib.hid (fun X b => awake8_any (hW.next b h0) (Nat.lt_of_lt_of_le h0 b.size))
  have HW : Hid (∀ X : World, Below W.heap.size W X → WordsAt 0 X ∧ 0 < X.heap.size) := Lib.hid (fun X b => ⟨hW.next b h0, Nat.lt_of_lt_of_le h0 b.size⟩)
  clear hW
  by_cases hs3 : s.size ≤ 3000
  · have HR := Lib.hid (rlines_any ⟨#[102]⟩ s W (by omega))
    have HL8 : Hid (∀ X : World, Calls Tryd.prog 24 #[.string s] X (LiPost X (linesA (charsL s.data.toList) s.size).lines)) := Lib.hid (fun X => lines8_any s X (by omega))
    have hfew := lines_few s hs3
    obtain ⟨R, hR⟩ : ∃ R, linesA (charsL s.data.toList) s.size = R := ⟨_, rfl⟩
    rw [hR] at HR HL8 hfew
    clear hR
    obtain ⟨L, hL⟩ : ∃ L, R.lines = L := ⟨_, rfl⟩
    rw [hL] at HL8 hfew
    have HRL := Lib.hid hL
    have HFW : Hid (L.length ≤ 20000) := Lib.hid (by omega)
    have hbf := built_few L
    have HGB : Hid (∀ (X : World) (v : Value), LinesAt fB L v X → Below W.heap.size W X → Calls Tryd.prog 23 #[v] X (BuiltP X (buildL (ksOf L)).1 (tells L))) := Lib.hid (fun X v h b => gbuild_any h HFW.out (HW.out X b).1 (HW.out X b).2)
    have HRB : Hid (∀ (X : World) (v : Value), LinesAt fB L v X → Calls Tryd.prog 25 #[v] X (BuiltP X (buildL (ksOf L)).1 (tells L))) := Lib.hid (fun X v h => rbuild_any h HFW.out)
    obtain ⟨I, hI⟩ : ∃ I, (buildL (ksOf L)).1 = I := ⟨_, rfl⟩
    obtain ⟨T, hT⟩ : ∃ T, tells L = T := ⟨_, rfl⟩
    rw [hI, hT] at HGB HRB
    rw [hI] at hbf
    have HFI : Hid ((flatIts I).length ≤ 500000) := Lib.hid (by omega)
    clear hL hfew hbf hI hT
    go_enter Tryd.func6, Tryd.ntmps6
    go_wp2_with (first
      | (go_at_call 22; (with_reducible refine HR.out.mono ?_); rintro e w1 ⟨la, n0, lc, da0, m0, dc0, rfl, -, -, hl, hd⟩; (have HL1 : Hid (LinesAt fB L (.slice la n0 lc) w1 ∧ Below W.heap.size W w1) := Lib.hid ⟨HRL.out ▸ LRow.at hl, hd.2⟩); clear hl hd)
      | (go_at_call 24; (with_reducible refine (HL8.out _).mono ?_); rintro e w2 ⟨la2, ln2, lc2, rfl, -, hl⟩; have HL2 : Hid (LinesAt fB L (.slice la2 ln2 lc2) w2 ∧ Below W.heap.size W w2 ∧ LinesAt fB L (.slice la n0 lc) w2) := Lib.hid ⟨hl.at, below_up HL1.out.2 hl.low, HL1.out.1.next hl.low⟩; clear hl)
      | (go_at_call 23; (with_reducible refine (HGB.out _ _ HL2.out.1 HL2.out.2.1).mono ?_); rintro e w3 ⟨ia, im, ic, da, dn, dc, rfl, ⟨⟨dep, hdep, hi⟩, hdn, hd⟩⟩; have HB3 : Hid (Below W.heap.size W w3) := Lib.hid (below_up HL2.out.2.1 hd.2); have HL3 : Hid (LinesAt fB L (.slice la n0 lc) w3) := Lib.hid (HL2.out.2.2.next hd.2); have HI3 := Lib.hid hi; have HD3 := Lib.hid hd; have HDP := Lib.hid hdep; clear hi hd hdn hdep)
      | (go_at_call 25; (with_reducible refine (HRB.out _ _ HL3.out).mono ?_); rintro e w4 ⟨ja, jm, jc, ea, en, ec, rfl, ⟨⟨dep2, hdep, hj⟩, hen, he⟩⟩; have HB4 : Hid (Below W.heap.size W w4) := Lib.hid (below_up HB3.out he.2); have HI4 := Lib.hid (itsAt_over _ _ _ _ _ HI3.out he.2); have HD4 := Lib.hid (DRow.over HD3.out he.2); have HJ4 := Lib.hid hj; have HE4 := Lib.hid he; have HDQ := Lib.hid hdep; clear hj he hen hdep)
      | (go_at_call 27; (with_reducible refine (items_back HI4.out HFI.out).mono ?_); rintro e w5 ⟨ka, kn, kc, rfl, hk, hb⟩; have HB5 : Hid (Below W.heap.size W w5) := Lib.hid (below_up HB4.out hb); have HI5 := Lib.hid (itsAt_over _ _ _ _ _ HI4.out hb); have HJ5 := Lib.hid (itsAt_over _ _ _ _ _ HJ4.out hb); have HD5 := Lib.hid (DRow.over HD4.out hb); have HE5 := Lib.hid (DRow.over HE4.out hb); have HK5 := Lib.hid hk; clear hk hb)
      | (go_at_call 26; (with_reducible refine (sameItems_any _ _ _ _ _ _ HK5.out HJ5.out).mono ?_); rintro e w6 ⟨rfl, hb⟩; have HB6 : Hid (Below W.heap.size W w6) := Lib.hid (below_up HB5.out hb); have HI6 := Lib.hid (itsAt_over _ _ _ _ _ HI5.out hb); have HJ6 := Lib.hid (itsAt_over _ _ _ _ _ HJ5.out hb); have HD6 := Lib.hid (DRow.over HD5.out hb); have HE6 := Lib.hid (DRow.over HE5.out hb); clear hb)
      | (go_at_call 28; (with_reducible refine (sameDiags_any (DRow.at HD6.out) (DRow.at HE6.out)).mono ?_); rintro e w7 ⟨rfl, hb⟩; have HB7 : Hid (Below W.heap.size W w7) := Lib.hid (below_up HB6.out hb); have HI7 := Lib.hid (itsAt_over _ _ _ _ _ HI6.out hb); have HJ7 := Lib.hid (itsAt_over _ _ _ _ _ HJ6.out hb); clear hb)
      | (go_at_call 30; (with_reducible refine (gflat_any HI7.out (by have := HDP.out; omega) (by have := HFI.out; omega)).mono ?_); rintro e w8 ⟨fa, fn, fc, rfl, -, hu⟩; have HB8 : Hid (Below W.heap.size W w8) := Lib.hid (below_up HB7.out hu.2); have HI8 := Lib.hid (itsAt_over _ _ _ _ _ HI7.out hu.2); have HJ8 := Lib.hid (itsAt_over _ _ _ _ _ HJ7.out hu.2); have HF8 := Lib.hid (ints_read hu); clear hu)
      | (go_at_call 31; (with_reducible refine (rflat_flat HJ8.out HFI.out).mono ?_); rintro e w9 ⟨ga, gn, gc, rfl, -, hu⟩; have HB9 : Hid (Below W.heap.size W w9) := Lib.hid (below_up HB8.out hu.2); have HI9 := Lib.hid (itsAt_over _ _ _ _ _ HI8.out hu.2); have HJ9 := Lib.hid (itsAt_over _ _ _ _ _ HJ8.out hu.2); have HF9 := Lib.hid (HF8.out.over hu.2); have HG9 := Lib.hid (ints_read hu); clear hu)
      | (go_at_call 29; (with_reducible refine (ints_any HF9.out HG9.out).mono ?_); rintro e w10 ⟨rfl, hb⟩; have HB10 : Hid (Below W.heap.size W w10) := Lib.hid (below_up HB9.out hb); have HI10 := Lib.hid (itsAt_over _ _ _ _ _ HI9.out hb); have HJ10 := Lib.hid (itsAt_over _ _ _ _ _ HJ9.out hb); clear hb)
      | (go_at_call 32; (with_reducible refine (gdepth_mx HI10.out HDP.out HFI.out).mono ?_); rintro e w11 ⟨rfl, hb⟩; have HB11 : Hid (Below W.heap.size W w11) := Lib.hid (below_up HB10.out hb); have HJ11 := Lib.hid (itsAt_over _ _ _ _ _ HJ10.out hb); clear hb)
      | (go_at_call 33; (with_reducible refine (rdepth_mx HJ11.out HDQ.out).mono ?_); rintro e w12 ⟨rfl, rfl⟩)
      | (go_at_call 21; (with_reducible refine (HA.out _ HB11.out).mono ?_); rintro e w13 ⟨rfl, hb⟩; have HB13 : Hid (Below W.heap.size W w13) := Lib.hid (below_up HB11.out hb); clear hb))
    go_ret
    exact ⟨rfl, HB13.out⟩
  · have hI : (3000 : Int) < (s.size : Int) := by omega
    go_enter Tryd.func6, Tryd.ntmps6
    go_wp2_with (go_at_call 21; (with_reducible refine (HA.out _ (Below.refl _ _)).mono ?_); rintro e w1 ⟨rfl, hb⟩; have HB1 := Lib.hid hb; clear hb)
    go_ret
    exact ⟨rfl, HB1.out⟩

end Go.Proofs.YtkmlnccdldmmpaaDoor

/-
  From a law's walk to its statement: each argument reads behind the call as it did.
-/
namespace Go.Proofs.YtkmlnccdldmmpaaDoor
open Go.ChangeShapes Go.WideShapes Go.ChangeAt Go.RowKit

theorem lift_own : ownKnob Tryd.prog.godebug = none := by kernel_rfl
theorem lift_laid : laidOutB Tryd.prog = true := by kernel_rfl

/-- The post of a law that writes nothing that it was given, and says nothing of reading again. -/
theorem post_keep {H : Type} {enc : TypeId × Value → H} {P : Program} {f : Func} {s : ChangeSpec} {apart fresh handsOn : Bool} {W W' : World} {args : Array Value} {v : Value} {ds gs : List (DataW H)} {before pa : List MemPlace}
    (hW : DataW.Whole enc P f.params.toList s.vars apart W args.toList ds gs before)
    (hres : ∀ (b : Nat) (sp : Nat → Bool) (hd : Bool), DataW.TrodAll enc P W' b sp hd f.resultTypes.toList (v.resultList f.resultTypes.size) (s.fn H (ds ++ gs)).results [])
    (hargs : DataW.TrodAll enc P W' 0 (fun b => decide (b < W.heap.size)) true f.params.toList args.toList (s.fn H (ds ++ gs)).args pa)
    (hvars : ∀ sp : Nat → Bool, DataW.TrodVars enc P W' sp s.vars (s.fn H (ds ++ gs)).vars []) (hb : Below W.heap.size W W') :
    s.post enc P f apart fresh handsOn false W args v W' :=
  ⟨ds, gs, before, [], pa, [], hW, hres _ _ _, hargs, hvars _, hb.frame _, fun h => by cases h⟩

end Go.Proofs.YtkmlnccdldmmpaaDoor

/-
  Tokens that came in, as the laws read them; and the table of words, as it lies when a call begins.
-/
namespace Go.Proofs.YtkmlnccdldmmpaaDoor
open Go.ChangeShapes Go.WideShapes Go.ChangeAt Go.RowKit Go.ChangeMaps

theorem lift_cellTok : Tryd.prog.cellsOf 36 = 8 := by kernel_rfl
theorem lift_cellSit : Tryd.prog.cellsOf 110 = 5 := by kernel_rfl
theorem lift_cellSpan : Tryd.prog.cellsOf 33 = 3 := by kernel_rfl
theorem lift_cellSl : Tryd.prog.cellsOf 34 = 1 := by kernel_rfl
theorem lift_cellInt : Tryd.prog.cellsOf 3 = 1 := by kernel_rfl
theorem lift_cellStr : Tryd.prog.cellsOf 9 = 1 := by kernel_rfl
theorem lift_cellBool : Tryd.prog.cellsOf 4 = 1 := by kernel_rfl

theorem read_spot {W : World} {a : Addr} {v : Value} (h : W.cell? a = some v) : ∃ g o, a = ⟨g, o, none⟩ ∧ g < W.heap.size := by
  obtain ⟨g, o, sp⟩ := a
  have hsp : sp = none := by simpa using World.cell?_spot h
  subst hsp
  exact ⟨g, o, rfl, World.block_lt_of_cell? W _ h⟩

section
variable {H : Type} {enc : TypeId × Value → H} {W : World} {base : Nat} {sp : Nat → Bool} {held : Bool} {fuel : Nat}

set_option maxRecDepth 100000 in
theorem read_span {cs : List Value} {x : DataW H × List MemPlace} (h : DataW.trod enc Tryd.prog W base sp held fuel 33 cs = some x) : ∃ (s : ByteArray) (f t : Int), cs = [.string s, .int .i64 f, .int .i64 t] := by
  obtain ⟨ys, n', -, -, hcl, hyl, hf⟩ := DataW.trod_struct Tryd.underlying33 h
  rw [lift_cellSpan] at hcl
  match cs, hcl with
  | [c0, c1, c2], _ =>
    match ys, hyl with
    | [y0, y1, y2], _ =>
      have f0 := hf 0 _ rfl
      have f1 := hf 1 _ rfl
      have f2 := hf 2 _ rfl
      simp [lift_cellInt, lift_cellStr] at f0 f1 f2
      obtain ⟨s0, e0, -, -⟩ := DataW.trod_string Tryd.underlying9 f0
      obtain ⟨n1, e1, -, -⟩ := DataW.trod_int Tryd.underlying3 f1
      obtain ⟨n2, e2, -, -⟩ := DataW.trod_int Tryd.underlying3 f2
      simp only [List.cons.injEq, and_true] at e0 e1 e2
      subst e0 e1 e2
      exact ⟨s0, n1, n2, rfl⟩

set_option maxRecDepth 100000 in
theorem read_site {cs : List Value} {x : DataW H × List MemPlace} (h : DataW.trod enc Tryd.prog W base sp held fuel 110 cs = some x) : ∃ s : Xs, cs = scell s := by
  obtain ⟨ys, n', -, -, hcl, hyl, hf⟩ := DataW.trod_struct Tryd.underlying110 h
  rw [lift_cellSit] at hcl
  match cs, hcl with
  | [c0, c1, c2, c3, c4], _ =>
    match ys, hyl with
    | [y0, y1, y2], _ =>
      have f0 := hf 0 _ rfl
      have f1 := hf 1 _ rfl
      have f2 := hf 2 _ rfl
      simp [lift_cellSpan, lift_cellStr, lift_cellBool] at f0 f1 f2
      obtain ⟨s0, e0, -, -⟩ := DataW.trod_string Tryd.underlying9 f0
      obtain ⟨s1, n1, n2, e1⟩ := read_span f1
      obtain ⟨b2, e2, -⟩ := DataW.trod_bool Tryd.underlying4 f2
      simp only [List.cons.injEq, and_true] at e0 e1 e2
      obtain ⟨rfl, rfl, rfl⟩ := e1
      subst e0 e2
      exact ⟨⟨s0, s1, n1, n2, b2⟩, rfl⟩

set_option maxRecDepth 100000 in
theorem read_sites {a : Option Addr} {len cap : Nat} {x : DataW H × List MemPlace} (h : DataW.trod enc Tryd.prog W base sp held fuel 34 [.slice a len cap] = some x) : ∃ S : List Xs, SitsA S (.slice a len cap) W := by
  rcases Go.Deep.open_slice Tryd.underlying34 h with ⟨hcs, -⟩ | ⟨a0, len', cap', m, fu, D, Pl, hcs, -, hl, hm, hmm, -, hi⟩
  · simp only [List.cons.injEq, Value.slice.injEq, and_true] at hcs
    obtain ⟨rfl, rfl, rfl⟩ := hcs
    exact ⟨[], sits_nil W⟩
  · simp only [List.cons.injEq, Value.slice.injEq, and_true] at hcs
    obtain ⟨rfl, rfl, rfl⟩ := hcs
    have hlm : len ≤ m := by
      rw [hmm]
      split <;> omega
    have hz : 0 < len → ∃ g o, a0 = ⟨g, o, none⟩ ∧ g < W.heap.size := fun h0 => by
      obtain ⟨cs', hc, ht'⟩ := hi 0 (by omega)
      rw [lift_cellSit] at hc
      obtain ⟨-, hcl, hat⟩ := World.cells?_some hc
      obtain ⟨s, rfl⟩ := read_site ht'
      have g0 := hat 0 (by omega)
      rw [Go.Deep.add_add, show a0.add (0 * 5 + 0) = a0 from by simp [Addr.add]] at g0
      exact read_spot g0
    obtain ⟨S, hSl, hSp⟩ := pick_list (fun i (s : Xs) => ∃ g o, a0 = ⟨g, o, none⟩ ∧ g < W.heap.size ∧ SitA s g (o + i * 5) W) len (fun i hil => by
      obtain ⟨cs', hc, ht'⟩ := hi i (by omega)
      rw [lift_cellSit] at hc
      obtain ⟨-, hcl, hat⟩ := World.cells?_some hc
      obtain ⟨s, rfl⟩ := read_site ht'
      have g0 := hat 0 (by omega)
      have g1 := hat 1 (by omega)
      have g2 := hat 2 (by omega)
      have g3 := hat 3 (by omega)
      have g4 := hat 4 (by omega)
      rw [Go.Deep.add_add] at g0 g1 g2 g3 g4
      obtain ⟨g, o0, rfl, hg⟩ := hz (by omega)
      rw [addr_off] at g0 g1 g2 g3 g4
      exact ⟨s, g, o0, rfl, hg, g0, g1, g2, g3, g4⟩)
    refine ⟨S, some a0, cap, by rw [hSl], by omega, hm, fun k s hs => ?_⟩
    obtain ⟨g, o, ha, hg, hc⟩ := hSp k s hs
    exact ⟨g, o, by rw [ha], hg, hc⟩

set_option maxRecDepth 100000 in
theorem read_token {cs : List Value} {x : DataW H × List MemPlace} (h : DataW.trod enc Tryd.prog W base sp held fuel 36 cs = some x) : ∃ (t : Xt) (sv : Value), cs = xcell (t, sv) ∧ SitsA t.ss sv W := by
  obtain ⟨ys, n', -, -, hcl, hyl, hf⟩ := DataW.trod_struct Tryd.underlying36 h
  rw [lift_cellTok] at hcl
  match cs, hcl with
  | [c0, c1, c2, c3, c4, c5, c6, c7], _ =>
    match ys, hyl with
    | [y0, y1, y2, y3, y4, y5], _ =>
      have f0 := hf 0 _ rfl
      have f1 := hf 1 _ rfl
      have f2 := hf 2 _ rfl
      have f3 := hf 3 _ rfl
      have f4 := hf 4 _ rfl
      have f5 := hf 5 _ rfl
      simp [lift_cellSpan, lift_cellStr, lift_cellBool, lift_cellInt, lift_cellSl] at f0 f1 f2 f3 f4 f5
      obtain ⟨n0, e0, -, -⟩ := DataW.trod_int Tryd.underlying3 f0
      obtain ⟨s1, e1, -, -⟩ := DataW.trod_string Tryd.underlying9 f1
      obtain ⟨b2, e2, -⟩ := DataW.trod_bool Tryd.underlying4 f2
      obtain ⟨s3, n3, m3, e3⟩ := read_span f3
      obtain ⟨b4, e4, -⟩ := DataW.trod_bool Tryd.underlying4 f4
      have hs5 : ∃ a len cap, c7 = .slice a len cap := by
        rcases Go.Deep.open_slice Tryd.underlying34 f5 with ⟨hcs, -⟩ | ⟨a0, len', cap', m, fu, D, Pl, hcs, -⟩
        · simp only [List.cons.injEq, and_true] at hcs
          exact ⟨_, _, _, hcs⟩
        · simp only [List.cons.injEq, and_true] at hcs
          exact ⟨_, _, _, hcs⟩
      obtain ⟨a5, len5, cap5, rfl⟩ := hs5
      obtain ⟨S, hS⟩ := read_sites f5
      simp only [List.cons.injEq, and_true] at e0 e1 e2 e3 e4
      obtain ⟨rfl, rfl, rfl⟩ := e3
      subst e0 e1 e2 e4
      exact ⟨⟨n0, s1, b2, s3, n3, m3, b4, S⟩, _, rfl, hS⟩

set_option maxRecDepth 100000 in
theorem read_toks {a : Option Addr} {len cap : Nat} {x : DataW H × List MemPlace} (h : DataW.trod enc Tryd.prog W base sp held fuel 22 (Value.cells (.slice a len cap)).toList = some x) : ∃ T : List Xt, ToksX T (.slice a len cap) W := by
  rcases Go.Deep.open_slice Tryd.underlying22 h with ⟨hcs, -⟩ | ⟨a0, len', cap', m, fu, D, Pl, hcs, -, hl, hm, hmm, -, hi⟩
  · simp [Value.cells] at hcs
    obtain ⟨rfl, rfl, rfl⟩ := hcs
    exact ⟨[], toksX_nil W⟩
  · simp [Value.cells] at hcs
    obtain ⟨rfl, rfl, rfl⟩ := hcs
    have hlm : len ≤ m := by
      rw [hmm]
      split <;> omega
    have hz : 0 < len → ∃ g o, a0 = ⟨g, o, none⟩ ∧ g < W.heap.size := fun h0 => by
      obtain ⟨cs', hc, ht'⟩ := hi 0 (by omega)
      rw [lift_cellTok] at hc
      obtain ⟨-, hcl, hat⟩ := World.cells?_some hc
      obtain ⟨t, sv, rfl, hs⟩ := read_token ht'
      have g0 := hat 0 (by omega)
      rw [Go.Deep.add_add, show a0.add (0 * 8 + 0) = a0 from by simp [Addr.add]] at g0
      exact read_spot g0
    obtain ⟨T, hTl, hTp⟩ := pick_list (fun i (t : Xt) => ∃ g o, a0 = ⟨g, o, none⟩ ∧ g < W.heap.size ∧ ∃ sv, TokX t sv g (o + i * 8) W ∧ SitsA t.ss sv W) len (fun i hil => by
      obtain ⟨cs', hc, ht'⟩ := hi i (by omega)
      rw [lift_cellTok] at hc
      obtain ⟨-, hcl, hat⟩ := World.cells?_some hc
      obtain ⟨t, sv, rfl, hs⟩ := read_token ht'
      have g0 := hat 0 (by omega)
      have g1 := hat 1 (by omega)
      have g2 := hat 2 (by omega)
      have g3 := hat 3 (by omega)
      have g4 := hat 4 (by omega)
      have g5 := hat 5 (by omega)
      have g6 := hat 6 (by omega)
      have g7 := hat 7 (by omega)
      rw [Go.Deep.add_add] at g0 g1 g2 g3 g4 g5 g6 g7
      obtain ⟨g, o0, rfl, hg⟩ := hz (by omega)
      rw [addr_off] at g0 g1 g2 g3 g4 g5 g6 g7
      exact ⟨t, g, o0, rfl, hg, sv, ⟨g0, g1, g2, g3, g4, g5, g6, g7⟩, hs⟩)
    refine ⟨T, some a0, cap, by rw [hTl], by omega, hm, fun k t ht => ?_⟩
    obtain ⟨g, o, ha, hg, sv, hc⟩ := hTp k t ht
    exact ⟨g, o, by rw [ha], hg, sv, hc⟩
end

/-- An array of texts. -/
theorem cells_strs {H : Type} {enc : TypeId × Value → H} {w : World} {base : Nat} {sp : Nat → Bool} {held : Bool} {fuel : Nat} {t e : TypeId} {n : Nat} {cs : List Value} {zs : List (List UInt8)} {p : List MemPlace}
    (ht : Tryd.prog.underlying t = some (.array n e)) (he : Tryd.prog.underlying e = some .string) (hce : Tryd.prog.cellsOf e = 1)
    (h : DataW.trod enc Tryd.prog w base sp held fuel t cs = some (DataW.agg (zs.map fun z => (DataW.lit (Lit.string z) : DataW H)), p)) : ∀ (i : Nat) (z : List UInt8), zs[i]? = some z → cs[i]? = some (.string ⟨z.toArray⟩) := by
  obtain ⟨xs, m, -, hx, hcl, hxl, hat⟩ := DataW.trod_array ht h
  intro i z hz
  have hxs : xs.map (·.1) = zs.map fun z => (DataW.lit (.string z) : DataW H) := by
    have := congrArg Prod.fst hx
    simpa using this.symm
  have hi : i < n := by
    have h1 := (List.getElem?_eq_some_iff.1 hz).1
    have h2 := congrArg List.length hxs
    simp at h2
    omega
  have h1 := hat i hi
  rw [hce, Nat.mul_one] at h1
  have h2 : (xs.map (·.1))[i]? = some (DataW.lit (.string z)) := by
    rw [hxs, List.getElem?_map, hz]
    rfl
  rw [List.getElem?_map, Option.map_eq_some_iff] at h2
  obtain ⟨y, hy, hy1⟩ := h2
  rw [hy] at h1
  obtain ⟨s, hs, hys, -⟩ := DataW.trod_string he h1
  rw [hys] at hy1
  simp only [DataW.lit.injEq, Lit.string.injEq] at hy1
  have h3 : cs[i]? = some (.string s) := by
    have := congrArg (·[0]?) hs
    simpa [List.getElem?_take, List.getElem?_drop] using this
  rw [h3, ← hy1]

end Go.Proofs.YtkmlnccdldmmpaaDoor

/-
  What the listed table holds.
-/
namespace Go.Proofs.YtkmlnccdldmmpaaDoor
open Go.ChangeShapes Go.WideShapes Go.ChangeAt Go.RowKit Go.ChangeMaps

def words8L : List (List UInt8) := [[], [], [105, 102], [105, 102, 100, 101, 102], [105, 102, 110, 100, 101, 102], [101, 108, 105, 102], [101, 108, 115, 101], [101, 110, 100, 105, 102], [105, 110, 99, 108, 117, 100, 101], [100, 101, 102, 105, 110, 101], [117, 110, 100, 101, 102], [108, 105, 110, 101], [101, 114, 114, 111, 114], [112, 114, 97, 103, 109, 97]]
theorem words8L_at : ∀ i, i < 14 → ∃ z, words8L[i]? = some z ∧ (⟨z.toArray⟩ : ByteArray) = wB i := by
  intro i hi
  have : i = 0 ∨ i = 1 ∨ i = 2 ∨ i = 3 ∨ i = 4 ∨ i = 5 ∨ i = 6 ∨ i = 7 ∨ i = 8 ∨ i = 9 ∨ i = 10 ∨ i = 11 ∨ i = 12 ∨ i = 13 := by omega
  rcases this with rfl | rfl | rfl | rfl | rfl | rfl | rfl | rfl | rfl | rfl | rfl | rfl | rfl | rfl <;> exact ⟨_, rfl, rfl⟩
theorem words8L_is {H : Type} : (Rows.laid_oxbow_direct_words : DataW H) = DataW.agg (words8L.map fun z => (DataW.lit (Lit.string z) : DataW H)) := rfl
theorem words8_global : Tryd.prog.globalNamed "oxbow/direct.words" = some 0 := by kernel_rfl
theorem words8_type : (Tryd.prog.globals[0]?).map (·.type) = some 78 := by kernel_rfl

theorem words8_laid {W : World} (h : laidMetH Tryd.prog [("oxbow/direct.words", Rows.laid_oxbow_direct_words)] W) : WordsAt 0 W ∧ 0 < W.heap.size := by
  rw [MakeChecks.laidMetH_plain _ _ _ (by kernel_rfl)] at h
  obtain ⟨ps, ⟨g', t', cs, fuel, p, q, hg', ht', hvar, hd, _, _⟩, _⟩ := h
  obtain rfl := Option.some.inj (words8_global.symm.trans hg')
  obtain rfl := Option.some.inj (words8_type.symm.trans ht')
  rw [words8L_is] at hd
  have hc := cells_strs Tryd.underlying78 Tryd.underlying9 lift_cellStr hd
  have hw : WordsAt 0 W := fun i hi => by
    obtain ⟨z, hz, hb⟩ := words8L_at i hi
    have h1 := hc i z hz
    rw [World.var?_cell words8_global hvar i, ← hb, ← h1]
    simp
  exact ⟨hw, World.block_lt_of_cell? W _ (hw 0 (by omega))⟩

end Go.Proofs.YtkmlnccdldmmpaaDoor
