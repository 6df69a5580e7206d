/-
  Texts of the proof, put together: GcAwake, GrDeep.
-/
import Derived.Test.YtlnlpahmfpjjdaaDoorG34
import Derived.Test.YtlnlpahmfpjjdaaDoorG37
import Derived.Test.YtlnlpahmfpjjdaaDoorG32
import Derived.Test.YtlnlpahmfpjjdaaDoorG13

/-
  What the document fixes of conditions.
-/
namespace Go.Proofs.YtlnlpahmfpjjdaaDoor
open Go.RowKit

theorem lnK_dir {ln : Ln} {t0 t1 : Tk} {r : List Tk} (h : ln.toks = t0 :: t1 :: r) (h0 : t0.k = 5) (hx : t0.x = [35]) (h1 : t1.k = 1) : lnK ln = (wKind ⟨t1.x.toArray⟩, true) := by
  unfold lnK
  rw [h, List.map_cons, List.map_cons]
  have hh : hashX (xtOf fB t0) = true := hash_is (by
    unfold xtOf
    rw [h0, hx]
    rfl)
  rw [kind_two hh]
  have h2 : (xtOf fB t1).k = 1 := by unfold xtOf; rw [h1]; rfl
  rw [if_pos h2]
  rfl
theorem lnK_text {ln : Ln} {t0 : Tk} {r : List Tk} (h : ln.toks = t0 :: r) (h0 : t0.k = 1) : lnK ln = (0, true) := by
  unfold lnK
  rw [h, List.map_cons]
  have hh : hashX (xtOf fB t0) = false := hash_is (by
    unfold xtOf
    rw [h0]
    rfl)
  rw [kind_no hh]
  rfl

def awS8 : ByteArray := ⟨#[35, 105, 102, 32, 97, 10, 98, 10, 35, 101, 108, 115, 101, 10, 99, 10, 35, 101, 110, 100, 105, 102, 10, 35, 101, 110, 100, 105, 102, 10, 35, 105, 102, 32, 120, 10]⟩
def awL8 : List Ln := [⟨[⟨5, [35], false, 0, 1⟩, ⟨1, [105, 102], false, 1, 3⟩, ⟨1, [97], true, 4, 5⟩], 0, 6, false⟩, ⟨[⟨1, [98], false, 6, 7⟩], 6, 8, false⟩, ⟨[⟨5, [35], false, 8, 9⟩, ⟨1, [101, 108, 115, 101], false, 9, 13⟩], 8, 14, false⟩, ⟨[⟨1, [99], false, 14, 15⟩], 14, 16, false⟩, ⟨[⟨5, [35], false, 16, 17⟩, ⟨1, [101, 110, 100, 105, 102], false, 17, 22⟩], 16, 23, false⟩, ⟨[⟨5, [35], false, 23, 24⟩, ⟨1, [101, 110, 100, 105, 102], false, 24, 29⟩], 23, 30, false⟩, ⟨[⟨5, [35], false, 30, 31⟩, ⟨1, [105, 102], false, 31, 33⟩, ⟨1, [120], true, 34, 35⟩], 30, 36, false⟩]
theorem aw8_lines : (linesA (charsL awS8.data.toList) awS8.size).lines = awL8 := by rfl
def awK8 : List (Nat × Bool) := [(2, true), (0, true), (6, true), (0, true), (7, true), (7, true), (2, true)]
theorem wk_if : wKind ⟨(#[105, 102] : Array UInt8)⟩ = 2 := wKind_word 2 (by omega) (by omega)
theorem wk_else : wKind ⟨(#[101, 108, 115, 101] : Array UInt8)⟩ = 6 := wKind_word 6 (by omega) (by omega)
theorem wk_endif : wKind ⟨(#[101, 110, 100, 105, 102] : Array UInt8)⟩ = 7 := wKind_word 7 (by omega) (by omega)
theorem aw8_ks : ksOf awL8 = awK8 := by
  unfold ksOf awL8 awK8
  rw [List.map_cons, List.map_cons, List.map_cons, List.map_cons, List.map_cons, List.map_cons, List.map_cons, List.map_nil]
  rw [lnK_dir (ln := ⟨_, 0, 6, false⟩) rfl rfl rfl rfl, lnK_text (ln := ⟨_, 6, 8, false⟩) rfl rfl, lnK_dir (ln := ⟨_, 8, 14, false⟩) rfl rfl rfl rfl, lnK_text (ln := ⟨_, 14, 16, false⟩) rfl rfl, lnK_dir (ln := ⟨_, 16, 23, false⟩) rfl rfl rfl rfl, lnK_dir (ln := ⟨_, 23, 30, false⟩) rfl rfl rfl rfl, lnK_dir (ln := ⟨_, 30, 36, false⟩) rfl rfl rfl rfl]
  rw [show wKind ⟨([105, 102] : List UInt8).toArray⟩ = 2 from wk_if, show wKind ⟨([101, 108, 115, 101] : List UInt8).toArray⟩ = 6 from wk_else, show wKind ⟨([101, 110, 100, 105, 102] : List UInt8).toArray⟩ = 7 from wk_endif]
def awI8 : List Itm := [.mk 2 0 [(0, [.mk 0 1 []]), (2, [.mk 0 3 []])], .mk 2 6 [(6, [])]]
theorem aw8_its : (buildL (ksOf awL8)).1 = awI8 := by rw [aw8_ks]; rfl
theorem aw8_tells : tells awL8 = [⟨12, 24, 29⟩, ⟨13, 31, 33⟩] := by unfold tells; rw [aw8_ks]; rfl

/-- What is read of it. -/
theorem aw8_cells {dep : Nat} {ia : Option Addr} {im ic : Nat} {w : World} (h : ItsAt dep awI8 (.slice ia im ic) w) :
    ∃ g o aa ac g2 o2 ja jc, ia = some ⟨g, o, none⟩ ∧ im = 2 ∧ 2 ≤ ic ∧ ic ≤ maxLen ∧ g < w.heap.size ∧ w.cell? ⟨g, o + 2, none⟩ = some (.slice (some ⟨g2, o2, none⟩) 2 ac) ∧ aa = g2 ∧ 2 ≤ ac ∧ ac ≤ maxLen ∧ g2 < w.heap.size ∧ w.cell? ⟨g2, o2 + 1, none⟩ = some (.slice ja 1 jc) := by
  obtain ⟨g, o, n', cap', aa, an, ac, rfl, rfl, rfl, h4, h5, h6, h7, h8, h9, ⟨-, -, c2⟩, h11, h12⟩ := h.head
  obtain ⟨e', rfl, ha⟩ := h12 (by simp [Itm.arms])
  obtain ⟨g2, o2, m', cap2, ja, jm, jc, rfl, rfl, rfl, k4, k5, k6, k7, k8, ⟨-, d1⟩, -, hit⟩ := arms_head ha
  obtain ⟨a3, n3, c3, hv3, hn3, -, -⟩ := itsAt_form _ _ _ _ hit
  simp only [Value.slice.injEq] at hv3
  obtain ⟨rfl, rfl, rfl⟩ := hv3
  obtain ⟨a4, n4, c4, hv4, hn4, -, -⟩ := itsAt_form _ _ _ _ h
  simp only [Value.slice.injEq] at hv4
  obtain ⟨-, hn5, -⟩ := hv4
  have e1 : n' + 1 = 2 := by rw [hn5, hn4]; rfl
  have e2 : m' + 1 = 2 := h7
  have e3 : jm = 1 := hn3
  rw [e2] at c2
  rw [e3] at d1
  exact ⟨g, o, g2, cap2 + 1, g2, o2, ja, jc, rfl, e1, by omega, h5, h6, c2, rfl, by omega, k5, k6, d1⟩

theorem aw8_dg {X : World} {da : Option Addr} {dn dc : Nat} {w : World} (h : DRow X fB (.slice da dn dc) [⟨12, 24, 29⟩, ⟨13, 31, 33⟩] w) :
    ∃ gd, da = some ⟨gd, 0, none⟩ ∧ dn = 2 ∧ 2 ≤ dc ∧ dc ≤ maxLen ∧ gd < w.heap.size ∧ w.cell? ⟨gd, 0, none⟩ = some (.int .i64 12) ∧ w.cell? ⟨gd, 4, none⟩ = some (.int .i64 13) := by
  obtain ⟨da', dc', hv, h1, h2, h3⟩ := h.at
  simp only [Value.slice.injEq] at hv
  obtain ⟨rfl, rfl, rfl⟩ := hv
  obtain ⟨gd, rfl, hl, t0, -, -, -⟩ := h3 0 _ rfl
  obtain ⟨gd', he, -, t1, -, -, -⟩ := h3 1 _ rfl
  simp only [Option.some.injEq, Addr.mk.injEq, and_true] at he
  subst he
  exact ⟨gd, rfl, rfl, h1, h2, hl, t0, t1⟩

theorem aw8_deep {dep : Nat} {v : Value} {w : World} (h : ItsAt dep awI8 v w) (hd : dep ≤ 500000) : Calls Tryd.prog 32 #[v] w (IntNew 1 w) := by
  have := gdepth_any h (by omega) (by decide)
  rw [← mx_deep (its_fits _ _ _ _ h)] at this
  exact this

set_option maxRecDepth 100000 in
set_option maxHeartbeats 6400000 in
theorem awake8_any {W : World} (hW : WordsAt 0 W) (h0 : 0 < W.heap.size) : Calls Tryd.prog 21 #[] W (TruePost W) := by
  have HL : Hid (Calls Tryd.prog 24 #[.string ⟨#[35, 105, 102, 32, 97, 10, 98, 10, 35, 101, 108, 115, 101, 10, 99, 10, 35, 101, 110, 100, 105, 102, 10, 35, 101, 110, 100, 105, 102, 10, 35, 105, 102, 32, 120, 10]⟩] W (LiPost W awL8)) := Lib.hid (aw8_lines ▸ lines8_any awS8 W (by decide))
  have HB : Hid (∀ (X : World) (v : Value), LinesAt fB awL8 v X → Below W.heap.size W X → Calls Tryd.prog 23 #[v] X (BuiltP X awI8 [⟨12, 24, 29⟩, ⟨13, 31, 33⟩])) := Lib.hid (fun X v h b => by
    have := gbuild_any h (by decide) (hW.next b h0) (Nat.lt_of_lt_of_le h0 b.size)
    rw [aw8_its, aw8_tells] at this
    exact this)
  clear hW
  go_enter Tryd.func21, Tryd.ntmps21
  go_wp2_with (first
    | (go_at_call 24; (with_reducible refine HL.out.mono ?_); rintro e w1 ⟨la, ln, lc, rfl, -, hl⟩; have HL1 : Hid (LinesAt fB awL8 (.slice la ln lc) w1 ∧ Below W.heap.size W w1) := Lib.hid ⟨hl.at, hl.low⟩; clear hl)
    | (go_at_call 23; (with_reducible refine (HB.out _ _ HL1.out.1 HL1.out.2).mono ?_); rintro e w2 ⟨ia, im, ic, da, dn, dc, rfl, ⟨⟨dep, hdep, hi⟩, hdn, hd⟩⟩; have HB2 : Hid (Below W.heap.size W w2) := Lib.hid (below_up HL1.out.2 hd.2); (obtain ⟨g, o, aa, ac, g2, o2, ja, jc, rfl, rfl, hic1, hic2, hg, c2, -, hac1, hac2, hg2, d1⟩ := aw8_cells hi); (obtain ⟨gd, rfl, rfl, hdc1, hdc2, hgd, t0, t1⟩ := aw8_dg hd); unfold maxLen at hic2 hac2 hdc2; have HI2 := Lib.hid hi; have HDP : Hid (dep ≤ 500000) := Lib.hid hdep; have HDC : Hid (Calls Tryd.prog 32 #[.slice (some ⟨g, o, none⟩) 2 ic] w2 (IntNew 1 w2)) := Lib.hid (aw8_deep hi hdep); clear hi hd hdn hdep)
    | (go_at_call 32; (with_reducible refine HDC.out.mono ?_); rintro e w3 ⟨rfl, hb⟩; have HB3 := Lib.hid hb; have HI3 := Lib.hid (itsAt_over _ _ _ _ _ HI2.out hb); clear hb)
    | (go_at_call 30; (with_reducible refine (gflat_any HI3.out (by have := HDP.out; omega) (by decide)).mono ?_); rintro e w4 ⟨fa, fn, fc, rfl, hfn, hu⟩; have HB4 := Lib.hid hu.2; (obtain rfl : fn = 5 := hfn); clear hu))
  go_ret
  exact ⟨rfl, below_up HB2.out (below_up HB3.out HB4.out)⟩

end Go.Proofs.YtlnlpahmfpjjdaaDoor

/-
  The document's Depth, walked.
-/
namespace Go.Proofs.YtlnlpahmfpjjdaaDoor
open Go.RowKit

theorem deepI_take {D : List Itm → Nat} {n : Nat} {qs : List (Int × List Itm)} {j : Nat} {x : Int × List Itm} (hx : qs[j]? = some x) : (qs.take (j + 1)).foldl (fun n a => max n (1 + D a.2)) n = max ((qs.take j).foldl (fun n a => max n (1 + D a.2)) n) (1 + D x.2) := by
  rw [List.take_add_one, hx, List.foldl_append]
  rfl
theorem deepF_take {D : List Itm → Nat} {l : List Itm} {k : Nat} {it : Itm} (hk : l[k]? = some it) : (l.take (k + 1)).foldl (deepI D) 0 = deepI D ((l.take k).foldl (deepI D) 0) it := by
  rw [List.take_add_one, hk, List.foldl_append]
  rfl

set_option maxRecDepth 100000 in
set_option maxHeartbeats 3200000 in
theorem rdeep_step {R : RelI} {D : List Itm → Nat} (hF : Formed R) (hR : ∀ l v w, R l v w → D l ≤ 1000000 ∧ Calls Tryd.prog 33 #[v] w (NatPost (D l) w)) {l : List Itm} {v : Value} {w : World} (h : ItsOf R l v w) :
    Calls Tryd.prog 33 #[v] w (NatPost (l.foldl (deepI D) 0) w) := by
  obtain ⟨a, n, cap, rfl, hn, hc1, hc2⟩ := h.form
  have HX := Lib.hid h
  have HN := Lib.hid hn
  have HR := Lib.hid hR
  have HF := Lib.hid hF
  unfold maxLen at hc2
  obtain ⟨Z, hZ⟩ : ∃ Z, l.foldl (deepI D) 0 = Z := ⟨_, rfl⟩
  have HZ := Lib.hid hZ
  rw [hZ]
  clear h hn hR hF hZ
  go_enter Tryd.func33, Tryd.ntmps33
  go_wp2
  go_loop [3, 4] (fun z i => ∃ k m : Nat, i = .int .i64 (k : Int) ∧ z = .int .i64 (m : Int) ∧ k ≤ n ∧ m ≤ 1000001 ∧ m = (l.take k).foldl (deepI D) 0) (fun _ i => n - (intOf i).toNat)
  case atStart => exact ⟨0, 0, rfl, rfl, Nat.zero_le _, by omega, rfl⟩
  case round =>
    obtain ⟨k, m, rfl, rfl, hk, hm, hmf⟩ := hrel
    have HM := Lib.hid hmf
    clear hmf
    by_cases hlt : k < n
    · obtain ⟨it, hit⟩ : ∃ it, l[k]? = some it := ⟨_, List.getElem?_eq_getElem (by rw [← HN.out]; exact hlt)⟩
      obtain ⟨g, o, aa, an, ac, rfl, hg, han, hac1, hac2, ⟨c0, c1, c2⟩, hr⟩ := HX.out.get hit
      have HIT := Lib.hid hit
      have HAN := Lib.hid han
      have HAR := Lib.hid hr
      unfold maxLen at hac2
      clear hit han hr
      go_wp2
      go_loop [3, 5] (fun z i => ∃ j p : Nat, i = .int .i64 (j : Int) ∧ z = .int .i64 (p : Int) ∧ j ≤ an ∧ p ≤ 1000001 ∧ p = (it.arms.take j).foldl (fun n a => max n (1 + D a.2)) m) (fun _ i => an - (intOf i).toNat)
      case atStart => exact ⟨0, m, rfl, rfl, Nat.zero_le _, hm, rfl⟩
      case round =>
        obtain ⟨j, p, rfl, rfl, hj, hp, hpf⟩ := hrel
        have HP := Lib.hid hpf
        clear hpf
        by_cases hltj : j < an
        · obtain ⟨x, hx⟩ : ∃ x, it.arms[j]? = some x := ⟨_, List.getElem?_eq_getElem (by rw [← HAN.out]; exact hltj)⟩
          obtain ⟨g2, o2, ia, im, ic, rfl, hg2, ⟨d0, d1⟩, hr2⟩ := HAR.out.get HF.out hx
          obtain ⟨hD, hCal⟩ := HR.out _ _ _ hr2
          obtain ⟨q, hq⟩ : ∃ q, D x.2 = q := ⟨_, rfl⟩
          rw [hq] at hD hCal
          have HCAL := Lib.hid hCal
          have HPX : Hid (max p (1 + q) = (it.arms.take (j + 1)).foldl (fun n a => max n (1 + D a.2)) m) := Lib.hid (by rw [deepI_take hx, ← HP.out, hq])
          have hmx : max (p : Int) (1 + (q : Int)) = ((max p (1 + q) : Nat) : Int) := by omega
          have hmb : max p (1 + q) ≤ 1000001 := by omega
          have HMX := Lib.hid hmx
          clear hx hr2 hCal hq hmx
          go_wp2_with (go_at_call 33; (with_reducible refine HCAL.out.mono ?_); rintro e w' ⟨rfl, rfl⟩)
          exact ⟨⟨j + 1, max p (1 + q), by go_num, by congr 1; split <;> omega, hltj, hmb, HPX.out⟩, by simp [intOf]; omega⟩
        · go_wp2
          go_round
          case rel => exact ⟨k + 1, p, by go_num, rfl, hlt, hp, by
            rw [deepF_take HIT.out, ← HM.out, HP.out]
            rw [List.take_of_length_le (by rw [← HAN.out]; omega)]
            rfl⟩
          case measure => simp [intOf]; omega
    · go_wp2
      go_ret
      exact ⟨ret_nat (by rw [← HZ.out, HM.out, List.take_of_length_le (by rw [← HN.out]; omega)]), rfl⟩

theorem deepI_le {D : List Itm → Nat} {m : Nat} (hD : ∀ l, D l ≤ m) : ∀ (qs : List (Int × List Itm)) (n : Nat), n ≤ m + 1 → qs.foldl (fun n a => max n (1 + D a.2)) n ≤ m + 1
  | [], _, h => h
  | a :: r, n, h => by
    rw [List.foldl_cons]
    exact deepI_le hD r _ (by have := hD a.2; omega)
theorem deepF_le : ∀ (d : Nat) (l : List Itm), deepF d l ≤ d
  | 0, _ => Nat.le_refl _
  | d + 1, l => by
    have : ∀ (l : List Itm) (n : Nat), n ≤ d + 1 → l.foldl (deepI (deepF d)) n ≤ d + 1 := by
      intro l
      induction l with
      | nil => intro n h; exact h
      | cons a r ih =>
        intro n h
        rw [List.foldl_cons]
        exact ih _ (deepI_le (deepF_le d) a.arms n h)
    exact this l 0 (Nat.zero_le _)
theorem rdepth_any : ∀ (d : Nat) (l : List Itm) (v : Value) (w : World), d ≤ 1000000 → ItsAt d l v w → Calls Tryd.prog 33 #[v] w (NatPost (deepF d l) w)
  | 0, l, v, w, _, h => by
    have := rdeep_step (D := fun _ => 0) (fun _ _ _ h => h.elim) (fun _ _ _ h => h.elim) h
    rw [deep_zero (its_fits 0 l v w h)] at this
    exact this
  | d + 1, l, v, w, hd, h => rdeep_step (itsAt_form d) (fun l v w h => ⟨by have := deepF_le d l; omega, rdepth_any d l v w (by omega) h⟩) h

end Go.Proofs.YtlnlpahmfpjjdaaDoor
