/-
  Texts of the proof, put together: LMTable.
-/
import Derived.Test.YtmghocfkekggaaaG51
import Derived.Test.YtmghocfkekggaaaG45

/-
  MacroTable, walked.
-/
namespace Go.Proofs.Ytmghocfkekggaaa
open Go.RowKit Go.Maps

theorem tt_new (W : World) : TT W W.heap.size (W.heap.size + 1) none false 0 [] (.slice none 0 0) [] (.pointer none) (.slice none 0 0) false ((W.alloc (tabObj none false)).alloc (docT (.slice none 0 0))) := by
  have h1 := heap_alloc_new W (tabObj none false)
  have h2 := heap_alloc_new (W.alloc (tabObj none false)) (docT (.slice none 0 0))
  rw [show (W.alloc (tabObj none false)).heap.size = W.heap.size + 1 from by simp] at h2
  refine ⟨heap_one W _ _, fun x => rfl, h2, mrow_nil _, ⟨rfl, rfl⟩, ⟨Nat.le_refl _, by omega, fun b e => by cases e⟩, ((Below.refl _ _).alloc (Nat.le_refl _) _).alloc (by simp) _⟩

theorem name_len (P : List Mv) : (nameL P).length = P.length := by unfold nameL; rw [List.length_map]
theorem shb_put {L : List Xm} {m : Xm} (h : ShBnd L) (hl : L.length ≤ 900) (hf : fewM m = true) : ShBnd (putM L m) := by
  obtain ⟨f1, f2, f3, f4⟩ := fewM_is hf
  refine ⟨by have := putM_len L m; omega, fun b hb => ?_⟩
  rcases putM_mem L m b hb with rfl | hb
  · exact ⟨by omega, f2, f3, f4⟩
  · exact h.2 b hb
theorem shb_del {L : List Xm} {x : ByteArray} (h : ShBnd L) : ShBnd (delM L x) :=
  ⟨Nat.le_trans (delM_len L x) h.1, fun b hb => h.2 b (delM_mem L x b hb)⟩

/-- Both tables say the same. -/
def LT (W : World) (p q j : Nat) (ov kv : Value) (oc : Bool) (X : World) : Prop :=
  ∃ (mo : Option Nat) (sh : Bool) (N : Nat) (lv : Value) (P : List Mv), TT W p q mo sh N (nameL P) lv P ov kv oc X ∧ Rises (nameL P) ∧ ShBnd (nameL P) ∧ P.length ≤ j ∧ N ≤ j
/-- The loop's letters. -/
def LTab (W : World) (p q n : Nat) (ca : Int) (ov kv i : Value) (wr : World) : Prop :=
  ∃ (k : Nat) (oc : Bool), i = .int .i64 (k : Int) ∧ k ≤ n ∧ LT W p q k ov kv oc wr ∧ (0 ≤ ca → ca < (k : Int) → oc = true)
theorem LT.bel {W : World} {p q j : Nat} {ov kv : Value} {oc : Bool} {X : World} (h : LT W p q j ov kv oc X) : Below W.heap.size W X := by
  obtain ⟨mo, sh, N, lv, P, h1, -⟩ := h
  exact h1.bel
theorem LT.over {W : World} {p q j : Nat} {ov kv : Value} {oc : Bool} {X Y : World} (h : LT W p q j ov kv oc X) (b : Below X.heap.size X Y) : LT W p q j ov kv oc Y := by
  obtain ⟨mo, sh, N, lv, P, h1, h2⟩ := h
  exact ⟨mo, sh, N, lv, P, h1.over b, h2⟩
theorem LT.more {W : World} {p q j : Nat} {ov kv : Value} {oc : Bool} {X : World} (h : LT W p q j ov kv oc X) : LT W p q (j + 1) ov kv oc X := by
  obtain ⟨mo, sh, N, lv, P, h1, h2, h3, h4, h5⟩ := h
  exact ⟨mo, sh, N, lv, P, h1, h2, h3, by omega, by omega⟩
theorem lt_copy {W : World} {p q j : Nat} {ov kv : Value} {oc : Bool} {X : World} (h : LT W p q j ov kv oc X) (hj : j ≤ 900) :
    Calls Try.prog 11 #[.pointer (some ⟨p, 0, none⟩)] X (fun e w' => ∃ p2 a n c, e = .returned (.pointer (some ⟨p2, 0, none⟩)) ∧ w'.cell? ⟨q, 0, none⟩ = some (.slice a n c) ∧ LT W p q j (.pointer (some ⟨p2, 0, none⟩)) (.slice a n c) true w') := by
  obtain ⟨mo, sh, N, lv, P, h1, h2, h3, h4, h5⟩ := h
  obtain ⟨a, n, c, rfl⟩ := h1.row.form
  refine (mcopy_any h1.tab).mono fun e w' ⟨he, hw⟩ => ?_
  subst hw
  have hc := h1.copied h2 h3 (by omega)
  exact ⟨_, a, n, c, he, (docT_cell hc.doc).1, mo, true, N, _, P, hc, h2, h3, h4, h5⟩
theorem lt_def {W : World} {p q j : Nat} {ov kv : Value} {oc : Bool} {X : World} (h : LT W p q j ov kv oc X) (hj : j ≤ 900) {m : Xm} {pv bv : Value} (hm : ∀ X : World, Below W.heap.size W X → MacAt m pv bv X) (hf : fewM m = true) :
    ∃ (bd : Bool) (T : World → Prop), (∀ Y : World, Below X.heap.size X Y → Calls Try.prog 12 #[.pointer (some ⟨p, 0, none⟩), macV m pv bv] Y (fun e w' => e = .returned (.bool bd) ∧ T w' ∧ ∃ Q, Turned Q Y w')) ∧
      ∀ Y : World, T Y → Calls Try.prog 14 #[.pointer (some ⟨q, 0, none⟩), macV m pv bv] Y (fun e w' => e = .returned (.bool bd) ∧ LT W p q (j + 1) ov kv oc w' ∧ ∃ Q, Turned Q Y w') := by
  obtain ⟨mo, sh, N, lv, P, h1, h2, h3, h4, h5⟩ := h
  refine ⟨defL (nameL P) m, fun Y => ∃ mo', TT W p q mo' false (N + 1) (putM (nameL P) m) lv P ov kv oc Y, fun Y hY => ?_, fun Y ⟨mo', hT⟩ => ?_⟩
  · have hT := h1.over hY
    exact (hT.define h2 (hm Y hT.bel) (by omega) hf).mono fun e w' ⟨he, mo', hT', hq⟩ => ⟨he, ⟨mo', hT'⟩, hq⟩
  · refine (hT.defineD (hm Y hT.bel) (by omega)).mono fun e w' ⟨he, lv', P', hn, hT', hq⟩ => ⟨he, ⟨mo', false, N + 1, lv', P', ?_, ?_, ?_, ?_, by omega⟩, hq⟩
    · rw [hn]; exact hT'
    · rw [hn]; exact rises_put h2 m
    · rw [hn]; exact shb_put h3 (by rw [name_len]; omega) hf
    · have := putM_len (nameL P) m
      rw [← hn, name_len, name_len] at this
      omega
theorem lt_und {W : World} {p q j : Nat} {ov kv : Value} {oc : Bool} {X : World} (h : LT W p q j ov kv oc X) (hj : j ≤ 900) (s : ByteArray) (hs : s.size ≤ 1000) :
    ∃ (bd : Bool) (T : World → Prop), (∀ Y : World, Below X.heap.size X Y → Calls Try.prog 15 #[.pointer (some ⟨p, 0, none⟩), .string s] Y (fun e w' => e = .returned (.bool bd) ∧ T w' ∧ ∃ Q, Turned Q Y w')) ∧
      ∀ Y : World, T Y → Calls Try.prog 16 #[.pointer (some ⟨q, 0, none⟩), .string s] Y (fun e w' => e = .returned (.bool bd) ∧ LT W p q j ov kv oc w' ∧ ∃ Q, Turned Q Y w') := by
  obtain ⟨mo, sh, N, lv, P, h1, h2, h3, h4, h5⟩ := h
  refine ⟨hereM (nameL P) s, fun Y => ∃ mo' sh', TT W p q mo' sh' N (delM (nameL P) s) lv P ov kv oc Y, fun Y hY => ?_, fun Y ⟨mo', sh', hT⟩ => ?_⟩
  · have hT := h1.over hY
    exact (hT.undef h2 s hs).mono fun e w' ⟨he, mo', sh', hT', hq⟩ => ⟨he, ⟨mo', sh', hT'⟩, hq⟩
  · refine (hT.undefD s (by omega)).mono fun e w' ⟨he, lv', P', hn, hT', hq⟩ => ⟨he, ⟨mo', sh', N, lv', P', ?_, ?_, ?_, ?_, by omega⟩, hq⟩
    · rw [hn]; exact hT'
    · rw [hn]; exact rises_del h2 s
    · rw [hn]; exact shb_del h3
    · have := delM_len (nameL P) s
      rw [← hn, name_len, name_len] at this
      omega
theorem lt_shows {W : World} {p q j : Nat} {ov kv : Value} {oc : Bool} {X : World} (h : LT W p q j ov kv oc X) (hj : j ≤ 900) :
    ∃ a n c, X.cell? ⟨q, 0, none⟩ = some (.slice a n c) ∧ Calls Try.prog 17 #[.pointer (some ⟨p, 0, none⟩), .slice a n c] X (BoolNew true X) := by
  obtain ⟨mo, sh, N, lv, P, h1, h2, h3, h4, h5⟩ := h
  obtain ⟨a, n, c, rfl⟩ := h1.row.form
  exact ⟨a, n, c, (docT_cell h1.doc).1, shows_any h1.tab h1.map h1.row h2 (by omega) h3⟩
theorem lt_other {W : World} {p q j : Nat} {ov kv : Value} {X : World} (h : LT W p q j ov kv true X) :
    ∃ p2 a n c, ov = .pointer (some ⟨p2, 0, none⟩) ∧ kv = .slice a n c ∧ Calls Try.prog 17 #[.pointer (some ⟨p2, 0, none⟩), .slice a n c] X (BoolNew true X) := by
  obtain ⟨mo, sh, N, lv, P, h1, -⟩ := h
  obtain ⟨p2, mo2, N2, P0, e, g1, g2, -, -, g5, g6, g7, g8⟩ := h1.oth
  obtain ⟨a, n, c, rfl⟩ := g5.form
  exact ⟨p2, a, n, c, e, rfl, shows_any g1 g2 g5 g6 g8 g7⟩

set_option maxRecDepth 100000 in
set_option maxHeartbeats 6400000 in
theorem law_table (ca : Int) (W : World) {v0 v1 : Value} {PL : List Mv} {U : List ByteArray} (h0 : MRow PL v0 W) (hf : ∀ x ∈ PL, MvFit x) (h1 : StrsV U v1 W) (hu : ∀ s ∈ U, s.size ≤ maxLen) :
    Calls Try.prog 3 #[v0, v1, .int .i64 ca] W (TruePost W) := by
  obtain ⟨a0, n0, c0, rfl⟩ := h0.form
  obtain ⟨a1, n1, c1, rfl⟩ := h1.form
  obtain ⟨hn0, hc0, hm0, -⟩ := h0.len
  obtain ⟨hn1, hc1, hm1⟩ := h1.len
  unfold maxLen at hm0 hm1
  have HN0 := Lib.hid hn0
  have HN1 := Lib.hid hn1
  have H0 := Lib.hid h0
  have H1 := Lib.hid h1
  have HF := Lib.hid hf
  have HAW : Hid (∀ X : World, Calls Try.prog 8 #[] X (TruePost X)) := Lib.hid (fun X => awake9_any X)
  obtain ⟨b, hb⟩ : ∃ b, shortM (U.map fun s => s.data.toList) 300 = b := ⟨_, rfl⟩
  have HS : Hid (Calls Try.prog 7 #[.slice a1 n1 c1, .int .i64 300] W (fun e w' => e = .returned (.bool b) ∧ W = w')) := Lib.hid (hb ▸ short9_any h1 300 (by omega) hu)
  have HUB : Hid (b = true → ∀ s ∈ U, s.size ≤ 300) := Lib.hid (fun e s hs => by
    rw [e] at hb
    unfold shortM at hb
    simp only [Bool.and_eq_true, decide_eq_true_eq] at hb
    have := sumM_mem (List.mem_map_of_mem (f := fun s : ByteArray => s.data.toList) hs)
    rw [Array.length_toList] at this
    exact Nat.le_trans this hb.2)
  clear h0 hf h1 hu hn0 hn1 hb
  by_cases hn : n0 ≤ 25
  · have hnI : ¬ (25 : Int) < (n0 : Int) := by omega
    cases b with
    | false =>
      go_enter Try.func3, Try.ntmps3
      go_wp2_with (first
        | (go_at_call 7; (with_reducible refine HS.out.mono ?_); rintro e w1 ⟨rfl, rfl⟩)
        | (go_at_call 8; (with_reducible refine (HAW.out _).mono ?_); rintro e w2 ⟨rfl, hb⟩; have HB := Lib.hid hb; clear hb))
      go_ret
      exact ⟨rfl, HB.out⟩
    | true =>
      have HT0 := Lib.hid (tt_new W)
      have HNEW : Hid (∀ X : World, Calls Try.prog 9 #[] X (fun e w' => e = .returned (.pointer (some ⟨X.heap.size, 0, none⟩)) ∧ w' = X.alloc (tabObj none false))) := Lib.hid (fun X => mnew_any X)
      go_enter Try.func3, Try.ntmps3
      go_wp2_with (first
        | (go_at_call 7; (with_reducible refine HS.out.mono ?_); rintro e w1 ⟨rfl, rfl⟩)
        | (go_at_call 9; (with_reducible refine (HNEW.out _).mono ?_); rintro e w2 ⟨rfl, rfl⟩))
      obtain ⟨p, hp⟩ : ∃ p, W.heap.size = p := ⟨_, rfl⟩
      obtain ⟨q, hq⟩ : ∃ q, W.heap.size + 1 = q := ⟨_, rfl⟩
      rw [hq, hp] at HT0
      rw [hq, hp]
      clear hp hq
      go_loopw [9, 10, 11] (fun ov kv i wr => LTab W p q n0 ca ov kv i wr) (fun _ _ i _ => n0 - (intOf i).toNat)
      case atStart => exact ⟨0, false, rfl, Nat.zero_le _, ⟨none, false, 0, _, [], HT0.out, List.Pairwise.nil, ⟨Nat.zero_le _, fun m hm => by cases hm⟩, Nat.le_refl _, Nat.le_refl _⟩, fun h1 h2 => by omega⟩
      case round =>
        obtain ⟨k, oc, rfl, hk, hT, hoc⟩ := hrel
        have HT := Lib.hid hT
        have HOC := Lib.hid hoc
        clear hT hoc
        by_cases hlt : k < n0
        · obtain ⟨x, hx⟩ : ∃ x, PL[k]? = some x := ⟨_, List.getElem?_eq_getElem (by rw [← HN0.out]; exact hlt)⟩
          obtain ⟨g, o, rfl, hg, hxc, hxa⟩ := H0.out.get hx
          obtain ⟨a3, n3, c3, hpv⟩ := hxa.1.form
          obtain ⟨a4, n4, c4, hbv⟩ := hxa.2.form
          have hfit := HF.out x (List.mem_of_getElem? hx)
          obtain ⟨bf, hbf⟩ : ∃ bf, fewM x.m = bf := ⟨_, rfl⟩
          have HFEW : Hid (∀ X : World, MacAt x.m x.pv x.bv X → Calls Try.prog 10 #[macV x.m x.pv x.bv] X (BoolNew bf X)) := Lib.hid (fun X hX => hbf ▸ few9_any hX hfit.2 hfit.1)
          have HBF := Lib.hid hbf
          have HXC := Lib.hid hxc
          have HXA := Lib.hid hxa
          have HPV := Lib.hid hpv
          have HBV := Lib.hid hbv
          have HX := Lib.hid hx
          obtain ⟨e0, e1, e2, e3, e4, e5, e6, e7⟩ := hxc.next HT.out.bel hg
          have hgw := Nat.lt_of_lt_of_le hg HT.out.bel.size
          rw [hpv] at e3
          rw [hbv] at e4
          rw [hpv, hbv] at HFEW
          unfold macV at HFEW
          have HAX : Hid (∀ X : World, Below W.heap.size W X → MacAt x.m (.slice a3 n3 c3) (.slice a4 n4 c4) X) := Lib.hid (fun X hX => by
            have := HXA.out.over hX
            rw [HPV.out, HBV.out] at this
            exact this)
          have hkI : (k : Int) < (n0 : Int) := by omega
          have hk0 : (0 : Int) ≤ (k : Int) := by omega
          clear hx hxc hxa hpv hbv hbf hfit
          cases bf with
          | false =>
            go_wp2_with (first
              | (go_at_call 10; (with_reducible refine (HFEW.out _ (HAX.out _ HT.out.bel)).mono ?_); rintro e w1 ⟨rfl, hb1⟩; have HB1 := Lib.hid (below_up HT.out.bel hb1); clear hb1)
              | (go_at_call 8; (with_reducible refine (HAW.out _).mono ?_); rintro e w2 ⟨rfl, hb⟩; have HB := Lib.hid hb; clear hb))
            go_ret
            exact ⟨rfl, below_up HB1.out HB.out⟩
          | true =>
            have HK9 : Hid (k ≤ 900 ∧ k + 1 ≤ 900) := Lib.hid (by omega)
            clear e0 e1 e2 e3 e4 e5 e6 e7
            obtain ⟨e0, e1, e2, e3, e4, e5, e6, e7⟩ := HXC.out.next HT.out.bel hg
            rw [HPV.out] at e3
            rw [HBV.out] at e4
            rcases Decidable.em ((k : Int) = ca) with hca | hca
            case' inl =>
              subst hca
              have hcb : ((k : Int) == (k : Int)) = true := by simp
              have HOC1 : Hid (0 ≤ (k : Int) → (k : Int) < ((k + 1 : Nat) : Int) → true = true) := Lib.hid (fun _ _ => rfl)
              go_wp2_with (first
                | (go_at_call 10
                   (with_reducible refine (HFEW.out _ (HAX.out _ HT.out.bel)).mono ?_)
                   rintro e w0 ⟨rfl, hb1⟩
                   have HT0b := Lib.hid (HT.out.over hb1)
                   clear hb1)
                | (go_at_call 11
                   (with_reducible refine (lt_copy HT0b.out HK9.out.1).mono ?_)
                   rintro e w1 ⟨p2, la, ln, lc, rfl, d0, ht1⟩
                   have HT1 := Lib.hid ht1
                   clear ht1))
              clear hcb d0
            case' inr =>
              have hcb : ((k : Int) == ca) = false := by simpa using hca
              have HOC1 : Hid (0 ≤ ca → ca < ((k + 1 : Nat) : Int) → oc = true) := Lib.hid (fun h1 h2 => HOC.out h1 (by omega))
              go_wp2_with (first
                | (go_at_call 10
                   (with_reducible refine (HFEW.out _ (HAX.out _ HT.out.bel)).mono ?_)
                   rintro e w1 ⟨rfl, hb1⟩
                   have HT1 := Lib.hid (HT.out.over hb1)
                   clear hb1))
              clear hcb hca
            all_goals
              clear e0 e1 e2 e3 e4 e5 e6 e7
              have HXC1 : Hid (MacC x g (o + k * 8) w1) := Lib.hid (HXC.out.next HT1.out.bel hg)
              have hg1 := Nat.lt_of_lt_of_le hg HT1.out.bel.size
              obtain ⟨f0, f1, f2, f3, f4, f5, f6, f7⟩ := HXC1.out
              rw [HPV.out] at f3
              rw [HBV.out] at f4
              obtain ⟨bd, T2, hdf, hdd⟩ := lt_def HT1.out HK9.out.1 HAX.out HBF.out
              have HDF := Lib.hid hdf
              have HDD := Lib.hid hdd
              have HMK : Hid (∀ X : World, Below W.heap.size W X → Calls Try.prog 13 #[macV x.m (.slice a3 n3 c3) (.slice a4 n4 c4)] X (SamePost X x.m (.slice a3 n3 c3) (.slice a4 n4 c4))) := Lib.hid (fun X hX => made9_any (HAX.out X hX))
              have hbb : (bd == bd) = true := by simp
              unfold macV at HDF HDD HMK
              clear hdf hdd
              go_region_held3 (fun w' => w'.cell? ⟨g, o + k * 8, none⟩ = some (.string x.m.n) ∧ w'.cell? ⟨g, o + k * 8 + 1, none⟩ = some (.bool x.m.fn) ∧ w'.cell? ⟨g, o + k * 8 + 2, none⟩ = some (.bool x.m.va) ∧ w'.cell? ⟨g, o + k * 8 + 3, none⟩ = some (.slice a3 n3 c3) ∧ w'.cell? ⟨g, o + k * 8 + 4, none⟩ = some (.slice a4 n4 c4) ∧ w'.cell? ⟨g, o + k * 8 + 5, none⟩ = some (.string x.m.g) ∧ w'.cell? ⟨g, o + k * 8 + 6, none⟩ = some (.int .i64 x.m.f) ∧ w'.cell? ⟨g, o + k * 8 + 7, none⟩ = some (.int .i64 x.m.t))
                (first | go_keep)
                (first
                  | (go_at_call 13
                     (refine (HMK.out _ (below_up HT1.out.bel (Below.refl _ _).drew)).mono ?_)
                     rintro e w2 ⟨rfl, hb2⟩
                     have hb2 := below_up (Below.refl w1.heap.size w1).drew hb2
                     have HB2 := Lib.hid hb2
                     have HXC2 : Hid (MacC x g (o + k * 8) w2) := Lib.hid (HXC1.out.next hb2 hg1)
                     have hg2 := Nat.lt_of_lt_of_le hg1 hb2.size
                     obtain ⟨k0, k1, k2, k3, k4, k5, k6, k7⟩ := HXC2.out
                     rw [HPV.out] at k3
                     rw [HBV.out] at k4
                     unfold macV
                     clear hb2)
                  | (go_at_call 12
                     (refine (HDF.out _ HB2.out).mono ?_)
                     rintro e w3 ⟨rfl, ht3, Q3, t3⟩
                     have HT3 := Lib.hid ht3
                     have HXC3 : Hid (MacC x g (o + k * 8) w3) := Lib.hid (HXC2.out.turn hg2 t3)
                     have hg3 := Nat.lt_of_lt_of_le hg2 t3.size
                     obtain ⟨j0, j1, j2, j3, j4, j5, j6, j7⟩ := HXC3.out
                     rw [HPV.out] at j3
                     rw [HBV.out] at j4
                     clear ht3 t3)
                  | (go_at_call 14
                     (refine (HDD.out _ HT3.out).mono ?_)
                     rintro e w4 ⟨rfl, ht4, Q4, t4⟩
                     have HT4 := Lib.hid ht4
                     have HXC4 : Hid (MacC x g (o + k * 8) w4) := Lib.hid (HXC3.out.turn hg3 t4)
                     have hg4 := Nat.lt_of_lt_of_le hg3 t4.size
                     obtain ⟨i0, i1, i2, i3, i4, i5, i6, i7⟩ := HXC4.out
                     rw [HPV.out] at i3
                     rw [HBV.out] at i4
                     clear ht4 t4))
              clear i0 i1 i2 i3 i4 i5 i6 i7 k0 k1 k2 k3 k4 k5 k6 k7 j0 j1 j2 j3 j4 j5 j6 j7 f0 f1 f2 f3 f4 f5 f6 f7
              go_wp2
              rcases Decidable.em (k < n1) with hku | hku
              case' inl =>
                obtain ⟨u, hu⟩ : ∃ u, U[k]? = some u := ⟨_, List.getElem?_eq_getElem (by rw [← HN1.out]; exact hku)⟩
                obtain ⟨gu, ou, rfl, hgu, hcu⟩ := H1.out.get hu
                have hus := HUB.out trivial u (List.mem_of_getElem? hu)
                have hkuI : (k : Int) < (n1 : Int) := by omega
                have huw := Nat.lt_of_lt_of_le hgu HT4.out.bel.size
                have hcu4 := bcell HT4.out.bel hcu hgu
                obtain ⟨bu, T5, hud, hdu⟩ := lt_und HT4.out HK9.out.2 u (by omega)
                have HUD := Lib.hid hud
                have HDU := Lib.hid hdu
                have hbb2 : (bu == bu) = true := by simp
                clear hud hdu hu hus
                go_region_held3 (fun w' => w'.cell? ⟨gu, ou + k, none⟩ = some (.string u))
                  (first | go_keep)
                  (first
                    | (go_at_call 15
                       (refine (HUD.out _ (Below.refl _ _).drew).mono ?_)
                       rintro e w5 ⟨rfl, ht5, Q5, t5⟩
                       have HT5 := Lib.hid ht5
                       have hcu5 : w5.cell? ⟨gu, ou + k, none⟩ = some (.string u) := str_turn (w := w4.drew) hcu4 huw t5
                       have huw5 : gu < w5.heap.size := Nat.lt_of_lt_of_le huw t5.size
                       clear ht5 t5)
                    | (go_at_call 16
                       (refine (HDU.out _ HT5.out).mono ?_)
                       rintro e w6 ⟨rfl, ht6, Q6, t6⟩
                       have HT6 := Lib.hid ht6
                       have hcu6 : w6.cell? ⟨gu, ou + k, none⟩ = some (.string u) := str_turn hcu5 huw5 t6
                       clear ht6 t6))
              case' inr =>
                have hkuI : ¬ (k : Int) < (n1 : Int) := by omega
                have hkuD : decide ((k : Int) < (n1 : Int)) = false := by simpa using hkuI
                go_quiet (fail)
                obtain ⟨w6, hw6⟩ : ∃ w6, w4.drewN nq = w6 := ⟨_, rfl⟩
                have HT6 := Lib.hid (HT4.out.over (Below.of_drews w4 nq))
                rw [hw6] at HT6 ⊢
                clear hw6
              all_goals
                obtain ⟨sa, sn, sc, hsc, hsh⟩ := lt_shows HT6.out HK9.out.2
                have HSH := Lib.hid hsh
                clear hsh
                go_wp2_with (first
                  | (go_at_call 17
                     (with_reducible refine HSH.out.mono ?_)
                     rintro e w7 ⟨rfl, hb7⟩
                     have HT7 := Lib.hid (HT6.out.over hb7)
                     clear hb7))
                clear hsc
                go_roundw
                case rel => first | exact ⟨k + 1, _, by go_num, hlt, HT7.out, HOC1.out⟩ | exact ⟨k + 1, _, by go_num, hlt, HT7.out, fun _ _ => rfl⟩
                case measure => simp [intOf]; omega
        · obtain rfl : k = n0 := by omega
          have hkI : ¬ (k : Int) < (k : Int) := by omega
          rcases Int.lt_or_le ca 0 with hca | hca
          · go_wp2_with (go_at_call 8; (with_reducible refine (HAW.out _).mono ?_); rintro e w2 ⟨rfl, hb⟩; have HB := Lib.hid hb; clear hb)
            go_ret
            exact ⟨rfl, below_up HT.out.bel HB.out⟩
          · have hcaI : ¬ ca < 0 := by omega
            rcases Int.lt_or_le ca (k : Int) with hcb | hcb
            · have hcbI : ¬ ((k : Int) ≤ ca) := by omega
              obtain rfl : oc = true := HOC.out hca hcb
              obtain ⟨p2, sa, sn, sc, rfl, rfl, hsh⟩ := lt_other HT.out
              have HSH := Lib.hid hsh
              clear hsh
              go_wp2_with (first
                | (go_at_call 17
                   (with_reducible refine HSH.out.mono ?_)
                   rintro e w7 ⟨rfl, hb7⟩
                   have HB7 := Lib.hid (below_up HT.out.bel hb7)
                   clear hb7)
                | (go_at_call 8; (with_reducible refine (HAW.out _).mono ?_); rintro e w2 ⟨rfl, hb⟩; have HB := Lib.hid hb; clear hb))
              go_ret
              exact ⟨rfl, below_up HB7.out HB.out⟩
            · go_wp2_with (go_at_call 8; (with_reducible refine (HAW.out _).mono ?_); rintro e w2 ⟨rfl, hb⟩; have HB := Lib.hid hb; clear hb)
              go_ret
              exact ⟨rfl, below_up HT.out.bel HB.out⟩
  · have hnI : (25 : Int) < (n0 : Int) := by omega
    go_enter Try.func3, Try.ntmps3
    go_wp2_with (go_at_call 8; (with_reducible refine (HAW.out _).mono ?_); rintro e w2 ⟨rfl, hb⟩; have HB := Lib.hid hb; clear hb)
    go_ret
    exact ⟨rfl, HB.out⟩

end Go.Proofs.Ytmghocfkekggaaa
