/-
  Texts of the proof, put together: LGBuild.
-/
import Derived.Test.YtlnlpahmfpjjdaaDoorG41
import Derived.Test.YtlnlpahmfpjjdaaDoorG53
import Derived.Test.YtlnlpahmfpjjdaaDoorG38
import Derived.Test.YtlnlpahmfpjjdaaDoorG18

/-
  GroupsBuild, walked.
-/
namespace Go.Proofs.YtlnlpahmfpjjdaaDoor
open Go.RowKit

def BackPost (w : World) (l : List Itm) (d : Nat) (e : Ending) (w' : World) : Prop := ∃ a n c, e = .returned (.slice a n c) ∧ ItsAt d l (.slice a n c) w' ∧ Below w.heap.size w w'
theorem items_back {d : Nat} {l : List Itm} {v : Value} {w : World} (h : ItsAt d l v w) (hf : (flatIts l).length ≤ 500000) : Calls Tryd.prog 27 #[v] w (BackPost w l d) :=
  (items_any d l v w h (its_small h hf)).mono fun _ _ ⟨a, n, c, he, h1, h2⟩ => ⟨a, n, c, he, itsP_at _ _ _ _ _ h1, h2⟩
theorem gdepth_mx {d : Nat} {l : List Itm} {v : Value} {w : World} (h : ItsAt d l v w) (hd : d ≤ 500000) (hf : (flatIts l).length ≤ 500000) : Calls Tryd.prog 32 #[v] w (IntNew ((mxD (evIts 0 l) 0 : Nat) : Int) w) := by
  rw [mx_deep (its_fits d l v w h)]
  exact gdepth_any h (by omega) (by omega)
theorem rdepth_mx {d : Nat} {l : List Itm} {v : Value} {w : World} (h : ItsAt d l v w) (hd : d ≤ 500000) : Calls Tryd.prog 33 #[v] w (NatPost (mxD (evIts 0 l) 0) w) := by
  rw [mx_deep (its_fits d l v w h)]
  exact rdepth_any d l v w (by omega) h
theorem rflat_flat {d : Nat} {l : List Itm} {v : Value} {w : World} (h : ItsAt d l v w) (hf : (flatIts l).length ≤ 500000) : Calls Tryd.prog 31 #[v] w (FlatPost w (flatIts l)) := by
  have := rflat_any d l v w h (by rw [its_flat h]; omega)
  rw [its_flat h] at this
  exact this

set_option maxRecDepth 100000 in
set_option maxHeartbeats 6400000 in
theorem build_law (s : ByteArray) (W : World) (hs : s.size ≤ maxLen) (hW : WordsAt 0 W) (h0 : 0 < W.heap.size) :
    Calls Tryd.prog 6 #[.string s] W (TruePost W) := by
  unfold maxLen at hs
  have HA : Hid (∀ X : World, Below W.heap.size W X → Calls Tryd.prog 21 #[] X (TruePost X)) := Lib.hid (fun X b => awake8_any (hW.next b h0) (Nat.lt_of_lt_of_le h0 b.size))
  have HW : Hid (∀ X : World, Below W.heap.size W X → WordsAt 0 X ∧ 0 < X.heap.size) := Lib.hid (fun X b => ⟨hW.next b h0, Nat.lt_of_lt_of_le h0 b.size⟩)
  clear hW
  by_cases hs3 : s.size ≤ 3000
  · have HR := Lib.hid (rlines_any ⟨#[102]⟩ s W (by omega))
    have HL8 : Hid (∀ X : World, Calls Tryd.prog 24 #[.string s] X (LiPost X (linesA (charsL s.data.toList) s.size).lines)) := Lib.hid (fun X => lines8_any s X (by omega))
    have hfew := lines_few s hs3
    obtain ⟨R, hR⟩ : ∃ R, linesA (charsL s.data.toList) s.size = R := ⟨_, rfl⟩
    rw [hR] at HR HL8 hfew
    clear hR
    obtain ⟨L, hL⟩ : ∃ L, R.lines = L := ⟨_, rfl⟩
    rw [hL] at HL8 hfew
    have HRL := Lib.hid hL
    have HFW : Hid (L.length ≤ 20000) := Lib.hid (by omega)
    have hbf := built_few L
    have HGB : Hid (∀ (X : World) (v : Value), LinesAt fB L v X → Below W.heap.size W X → Calls Tryd.prog 23 #[v] X (BuiltP X (buildL (ksOf L)).1 (tells L))) := Lib.hid (fun X v h b => gbuild_any h HFW.out (HW.out X b).1 (HW.out X b).2)
    have HRB : Hid (∀ (X : World) (v : Value), LinesAt fB L v X → Calls Tryd.prog 25 #[v] X (BuiltP X (buildL (ksOf L)).1 (tells L))) := Lib.hid (fun X v h => rbuild_any h HFW.out)
    obtain ⟨I, hI⟩ : ∃ I, (buildL (ksOf L)).1 = I := ⟨_, rfl⟩
    obtain ⟨T, hT⟩ : ∃ T, tells L = T := ⟨_, rfl⟩
    rw [hI, hT] at HGB HRB
    rw [hI] at hbf
    have HFI : Hid ((flatIts I).length ≤ 500000) := Lib.hid (by omega)
    clear hL hfew hbf hI hT
    go_enter Tryd.func6, Tryd.ntmps6
    go_wp2_with (first
      | (go_at_call 22; (with_reducible refine HR.out.mono ?_); rintro e w1 ⟨la, n0, lc, da0, m0, dc0, rfl, -, -, hl, hd⟩; (have HL1 : Hid (LinesAt fB L (.slice la n0 lc) w1 ∧ Below W.heap.size W w1) := Lib.hid ⟨HRL.out ▸ LRow.at hl, hd.2⟩); clear hl hd)
      | (go_at_call 24; (with_reducible refine (HL8.out _).mono ?_); rintro e w2 ⟨la2, ln2, lc2, rfl, -, hl⟩; have HL2 : Hid (LinesAt fB L (.slice la2 ln2 lc2) w2 ∧ Below W.heap.size W w2 ∧ LinesAt fB L (.slice la n0 lc) w2) := Lib.hid ⟨hl.at, below_up HL1.out.2 hl.low, HL1.out.1.next hl.low⟩; clear hl)
      | (go_at_call 23; (with_reducible refine (HGB.out _ _ HL2.out.1 HL2.out.2.1).mono ?_); rintro e w3 ⟨ia, im, ic, da, dn, dc, rfl, ⟨⟨dep, hdep, hi⟩, hdn, hd⟩⟩; have HB3 : Hid (Below W.heap.size W w3) := Lib.hid (below_up HL2.out.2.1 hd.2); have HL3 : Hid (LinesAt fB L (.slice la n0 lc) w3) := Lib.hid (HL2.out.2.2.next hd.2); have HI3 := Lib.hid hi; have HD3 := Lib.hid hd; have HDP := Lib.hid hdep; clear hi hd hdn hdep)
      | (go_at_call 25; (with_reducible refine (HRB.out _ _ HL3.out).mono ?_); rintro e w4 ⟨ja, jm, jc, ea, en, ec, rfl, ⟨⟨dep2, hdep, hj⟩, hen, he⟩⟩; have HB4 : Hid (Below W.heap.size W w4) := Lib.hid (below_up HB3.out he.2); have HI4 := Lib.hid (itsAt_over _ _ _ _ _ HI3.out he.2); have HD4 := Lib.hid (DRow.over HD3.out he.2); have HJ4 := Lib.hid hj; have HE4 := Lib.hid he; have HDQ := Lib.hid hdep; clear hj he hen hdep)
      | (go_at_call 27; (with_reducible refine (items_back HI4.out HFI.out).mono ?_); rintro e w5 ⟨ka, kn, kc, rfl, hk, hb⟩; have HB5 : Hid (Below W.heap.size W w5) := Lib.hid (below_up HB4.out hb); have HI5 := Lib.hid (itsAt_over _ _ _ _ _ HI4.out hb); have HJ5 := Lib.hid (itsAt_over _ _ _ _ _ HJ4.out hb); have HD5 := Lib.hid (DRow.over HD4.out hb); have HE5 := Lib.hid (DRow.over HE4.out hb); have HK5 := Lib.hid hk; clear hk hb)
      | (go_at_call 26; (with_reducible refine (sameItems_any _ _ _ _ _ _ HK5.out HJ5.out).mono ?_); rintro e w6 ⟨rfl, hb⟩; have HB6 : Hid (Below W.heap.size W w6) := Lib.hid (below_up HB5.out hb); have HI6 := Lib.hid (itsAt_over _ _ _ _ _ HI5.out hb); have HJ6 := Lib.hid (itsAt_over _ _ _ _ _ HJ5.out hb); have HD6 := Lib.hid (DRow.over HD5.out hb); have HE6 := Lib.hid (DRow.over HE5.out hb); clear hb)
      | (go_at_call 28; (with_reducible refine (sameDiags_any (DRow.at HD6.out) (DRow.at HE6.out)).mono ?_); rintro e w7 ⟨rfl, hb⟩; have HB7 : Hid (Below W.heap.size W w7) := Lib.hid (below_up HB6.out hb); have HI7 := Lib.hid (itsAt_over _ _ _ _ _ HI6.out hb); have HJ7 := Lib.hid (itsAt_over _ _ _ _ _ HJ6.out hb); clear hb)
      | (go_at_call 30; (with_reducible refine (gflat_any HI7.out (by have := HDP.out; omega) (by have := HFI.out; omega)).mono ?_); rintro e w8 ⟨fa, fn, fc, rfl, -, hu⟩; have HB8 : Hid (Below W.heap.size W w8) := Lib.hid (below_up HB7.out hu.2); have HI8 := Lib.hid (itsAt_over _ _ _ _ _ HI7.out hu.2); have HJ8 := Lib.hid (itsAt_over _ _ _ _ _ HJ7.out hu.2); have HF8 := Lib.hid (ints_read hu); clear hu)
      | (go_at_call 31; (with_reducible refine (rflat_flat HJ8.out HFI.out).mono ?_); rintro e w9 ⟨ga, gn, gc, rfl, -, hu⟩; have HB9 : Hid (Below W.heap.size W w9) := Lib.hid (below_up HB8.out hu.2); have HI9 := Lib.hid (itsAt_over _ _ _ _ _ HI8.out hu.2); have HJ9 := Lib.hid (itsAt_over _ _ _ _ _ HJ8.out hu.2); have HF9 := Lib.hid (HF8.out.over hu.2); have HG9 := Lib.hid (ints_read hu); clear hu)
      | (go_at_call 29; (with_reducible refine (ints_any HF9.out HG9.out).mono ?_); rintro e w10 ⟨rfl, hb⟩; have HB10 : Hid (Below W.heap.size W w10) := Lib.hid (below_up HB9.out hb); have HI10 := Lib.hid (itsAt_over _ _ _ _ _ HI9.out hb); have HJ10 := Lib.hid (itsAt_over _ _ _ _ _ HJ9.out hb); clear hb)
      | (go_at_call 32; (with_reducible refine (gdepth_mx HI10.out HDP.out HFI.out).mono ?_); rintro e w11 ⟨rfl, hb⟩; have HB11 : Hid (Below W.heap.size W w11) := Lib.hid (below_up HB10.out hb); have HJ11 := Lib.hid (itsAt_over _ _ _ _ _ HJ10.out hb); clear hb)
      | (go_at_call 33; (with_reducible refine (rdepth_mx HJ11.out HDQ.out).mono ?_); rintro e w12 ⟨rfl, rfl⟩)
      | (go_at_call 21; (with_reducible refine (HA.out _ HB11.out).mono ?_); rintro e w13 ⟨rfl, hb⟩; have HB13 : Hid (Below W.heap.size W w13) := Lib.hid (below_up HB11.out hb); clear hb))
    go_ret
    exact ⟨rfl, HB13.out⟩
  · have hI : (3000 : Int) < (s.size : Int) := by omega
    go_enter Tryd.func6, Tryd.ntmps6
    go_wp2_with (go_at_call 21; (with_reducible refine (HA.out _ (Below.refl _ _)).mono ?_); rintro e w1 ⟨rfl, hb⟩; have HB1 := Lib.hid hb; clear hb)
    go_ret
    exact ⟨rfl, HB1.out⟩

end Go.Proofs.YtlnlpahmfpjjdaaDoor
