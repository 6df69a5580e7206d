/-
  Texts of the proof, put together: LMWholeA, LMWholeB.
-/
import Derived.Test.YtjbgikhhdhadjaaG45

/-
  What may be defined is defined as it stands: the law, walked, where a macro is defined.
-/
namespace Go.Proofs.Ytjbgikhhdhadjaa
open Go.RowKit Go.Maps

set_option maxRecDepth 100000 in
set_option maxHeartbeats 12800000 in
theorem whole_good1 {T : List Xt} {v : Value} {W : World} {m : Xm} (h : ToksX T v W) (hf : fewB T 60 = true) (hp : parseL T = .inl m) (hfn : m.fn = false) (hva : m.va = false) : Calls Try.prog 5 #[v] W (TruePost W) := by
  obtain ⟨a, N, cap, rfl⟩ := h.form
  obtain ⟨f1, f2⟩ := few_is hf
  have HF : Hid (Calls Try.prog 24 #[.slice a N cap, .int .i64 60] W (BoolPost true W)) := Lib.hid (hf ▸ few_any h 60 (by omega))
  have HP : Hid (Calls Try.prog 19 #[.slice a N cap] W (GoodPost W m)) := Lib.hid (by
    have := parse_any h (by omega) (fun u hu => by have := (f2 u hu).2; omega) (fun u hu => by have := (f2 u hu).1; unfold maxLen; omega)
    rw [hp] at this
    exact this.mono fun _ _ h => good_post h)
  match T, h, hp with
  | [], h, hp => exact absurd hp whole_nil
  | t :: r, h, hp =>
    have hok := whole_ok hp
    obtain ⟨hn, hc1, hc2⟩ := h.len
    simp only [List.length_cons] at hn f1
    unfold maxLen at hc2
    obtain ⟨g, o, sa, sn, sc, rfl, hg, -, hx, -⟩ := h.get (k := 0) (t := t) rfl
    rw [Nat.zero_mul, Nat.add_zero] at hx
    have hne : ((N : Int) == 0) = false := by simp; omega
    have hN0 : (0 : Int) < (N : Int) := by omega
    have hN60 : (N : Int) ≤ 60 := by omega
    have HX := Lib.hid h
    have HT0 := Lib.hid hx
    have HG := Lib.hid hg
    have HN := Lib.hid hn
    have HBODY := Lib.hid hok.body
    have HK1 := Lib.hid hok.isK
    obtain ⟨nm, fn, va, ps, bd, mg, mf, mt⟩ := m
    have e1 := hok.isN
    have e2 := hok.isG
    have e3 := hok.isF
    have e4 := hok.isT
    have hkind := hok.kind
    simp only at e1 e2 e3 e4 hkind
    simp only at hfn hva
    subst e1 e2 e3 e4 hfn hva
    obtain ⟨nb, hnb⟩ : ∃ nb, bd.length = nb := ⟨_, rfl⟩
    obtain ⟨np, hnp⟩ : ∃ np, ps.length = np := ⟨_, rfl⟩
    rw [hnb, hnp] at hkind
    have HNB := Lib.hid hnb
    have HNP := Lib.hid hnp
    have hr1 : r.length + 1 = N := by omega
    obtain ⟨h3, h4⟩ : np = 0 ∧ nb = r.length := by
      rcases hkind with ⟨-, -, h3, h4⟩ | ⟨h1, -⟩
      · exact ⟨h3, h4⟩
      · cases h1
    subst h3
    obtain rfl : N = nb + 1 := by omega
    have HR1 := Lib.hid hr1
    have hq1 : True := trivial
    have hq2 : True := trivial
    clear h hf hp hx hg hn f1 f2 hok hkind hnb hnp hr1 h4
    go_enter Try.func5, Try.ntmps5
    go_wp2_with (first
      | (go_at_call 24; (with_reducible refine HF.out.mono ?_); rintro e w1 ⟨rfl, rfl⟩)
      | (go_at_call 19; (with_reducible refine HP.out.mono ?_); rintro e w1 ⟨pa, pn, pc, ba, bn, bc, rfl, hpn, hbn, hm1, hb1⟩; rw [HNP.out] at hpn; rw [HNB.out] at hbn; subst hpn hbn; have HM1 := Lib.hid hm1; have HB1 := Lib.hid hb1; have hg1 := HG.out; (obtain ⟨c0, c1, c2, c3, c4, c5, c6, c7⟩ := HT0.out.next hb1 HG.out); rw [HK1.out] at c0; (have hgs : g < w1.heap.size := Nat.lt_of_lt_of_le HG.out hb1.size); (have hgn : g ≠ w1.heap.size := by omega); (have hgm : w1.heap.size ≠ g := by omega); clear hm1 hb1 hg1))
    go_quiet (fail)
    go_wp2
    have hB12 : Below w1.heap.size w1 ((w1.alloc (Obj.cells #[.string t.x, .bool false, .bool false, .slice pa 0 pc, .slice ba bn bc, .string t.g, .int .i64 t.f, .int .i64 t.t] 38)).drewN nq) := ((Below.refl _ _).alloc (Nat.le_refl _) _).trans ((Below.of_drews _ _).mono (by simp))
    have hQ2 : ((w1.alloc (Obj.cells #[.string t.x, .bool false, .bool false, .slice pa 0 pc, .slice ba bn bc, .string t.g, .int .i64 t.f, .int .i64 t.t] 38)).drewN nq).heap[w1.heap.size]? = some (mObj ⟨t.x, false, false, ps, bd, t.g, t.f, t.t⟩ (.slice pa 0 pc) (.slice ba bn bc)) := heap_alloc_new w1 _
    obtain ⟨w2, hw2⟩ : ∃ w2, ((w1.alloc (Obj.cells #[.string t.x, .bool false, .bool false, .slice pa 0 pc, .slice ba bn bc, .string t.g, .int .i64 t.f, .int .i64 t.t] 38)).drewN nq) = w2 := ⟨_, rfl⟩
    obtain ⟨b3, hb3⟩ : ∃ b3, w1.heap.size = b3 := ⟨_, rfl⟩
    rw [hw2] at hB12 hQ2 ⊢
    have HB2 := Lib.hid (below_up HB1.out hB12)
    have HM2 := Lib.hid (HM1.out.2.over hB12)
    rw [hb3] at hQ2 ⊢
    have HX2 := Lib.hid (HX.out.over HB2.out)
    have HQ2 := Lib.hid hQ2
    clear hq1 hq2 hw2 hb3 hB12 hQ2 c0 c1 c2 c3 c4 c5 c6 c7 hgs hgn hgm HT0 HG HX HM1 HB1
    go_loopw [6] (fun s wr => ∃ k : Nat, s = .int .i64 (k : Int) ∧ k ≤ bn ∧ Below w2.heap.size w2 wr) (fun s _ => bn - (intOf s).toNat)
    case atStart => exact ⟨0, rfl, Nat.zero_le _, Below.refl _ _⟩
    case round =>
      obtain ⟨k, rfl, hk, hb⟩ := hrel
      obtain ⟨⟨y0, y1, y2, y3, y4, y5, y6, y7⟩, -⟩ := mObj_cells ((hb.block b3 (row_lt HQ2.out)).trans HQ2.out)
      simp only at y0 y1 y2 y3 y4 y5 y6 y7
      have HBK : Hid (Below W.heap.size W wr) := Lib.hid (below_up HB2.out hb)
      by_cases hlt : k < bn
      · obtain ⟨u, hu⟩ : ∃ u, bd[k]? = some u := ⟨_, List.getElem?_eq_getElem (by rw [HNB.out]; exact hlt)⟩
        obtain ⟨⟨vk, vx, vsp, vg, vf, vt, vd, vss⟩, hv, hx1, hx2, hx3, hx4, hx5, hx6, hx7⟩ := HBODY.out k u hu
        simp only at hv hx1 hx2 hx3 hx4 hx5 hx6 hx7
        subst hx1 hx2 hx3 hx4 hx5
        rw [HNB.out, HR1.out] at hv
        obtain ⟨gb, ob, ua, un, uc, rfl, hgb, -, hua, -⟩ := HM2.out.get hu
        obtain ⟨gv, ov, va', vn, vc, hge, hgv, -, hva, -⟩ := HX2.out.get hv
        simp only [Option.some.injEq, Addr.mk.injEq, and_true] at hge
        obtain ⟨rfl, rfl⟩ := hge
        obtain ⟨p0, p1, p2, p3, p4, p5, p6, p7⟩ := hua.next hb hgb
        obtain ⟨v0, v1, v2, v3, v4, v5, v6, v7⟩ := hva.next hb hgv
        simp only at v0 v1 v2 v3 v4 v5 v6 v7
        have hlb := (List.getElem?_eq_some_iff.1 hv).1
        simp only [List.length_cons] at hlb
        obtain ⟨dj, hdj⟩ : ∃ dj, bn + 1 - bn = dj := ⟨_, rfl⟩
        obtain ⟨j, hj⟩ : ∃ j, dj + k = j := ⟨_, rfl⟩
        rw [hdj, hj] at v0 v1 v2 v3 v4 v5 v6 v7
        have hjN : (j : Int) < ((bn : Int) + 1) := by have := HR1.out; omega
        have hj0 : (0 : Int) ≤ (j : Int) := by omega
        have hkI : (k : Int) < (bn : Int) := by omega
        have hk0 : (0 : Int) ≤ (k : Int) := by omega
        have hgbs : gb < wr.heap.size := Nat.lt_of_lt_of_le hgb hb.size
        have hgvs : g < wr.heap.size := Nat.lt_of_lt_of_le hgv hb.size
        have hbs : b3 < wr.heap.size := Nat.lt_of_lt_of_le (row_lt HQ2.out) hb.size
        have n1 : gb ≠ wr.heap.size := by omega
        have n2 : g ≠ wr.heap.size := by omega
        have n3 : b3 ≠ wr.heap.size := by omega
        have n4 : wr.heap.size ≠ gb := by omega
        have n5 : wr.heap.size ≠ g := by omega
        have n6 : wr.heap.size ≠ b3 := by omega
        have s1 : ((bn : Int) + 1) - (bn : Int) = (dj : Int) := by omega
        have s2 : (dj : Int) + (k : Int) = (j : Int) := by omega
        have s3 : IntKind.i64.wrap (((bn : Int) + 1) - (bn : Int)) = (dj : Int) := by rw [s1]; exact IntWalk.i64_in _ (by omega)
        have s4 : IntKind.i64.wrap ((dj : Int) + (k : Int)) = (j : Int) := by rw [s2]; exact IntWalk.i64_in _ (by omega)
        have HBW := Lib.hid hb
        clear hu hv hua hva hb hgb hgv hlb hdj hj s1 s2
        go_wp2
        go_region
        all_goals
          clear p0 p1 p2 p3 p4 p5 p6 p7 v0 v1 v2 v3 v4 v5 v6 v7 s3 s4
          by_cases hz : k = 0
          · have hsp := hx6 hz
            have hkz : ((k : Int) == 0) = true := by simp; omega
            have hkn : ¬ (0 : Int) < (k : Int) := by omega
            rw [hsp]
            clear hz hx6 hx7
            go_wp2
            go_roundw
            case rel => exact ⟨k + 1, by go_num, hlt, HBW.out.trans ((((Below.refl wr.heap.size wr).alloc (Nat.le_refl _) _).alloc (by simp) _).drew.mono HBW.out.size)⟩
            case measure => simp [intOf]; omega
          · have hsp := hx7 (by omega)
            have hkz : ((k : Int) == 0) = false := by simp; omega
            have hkn : (0 : Int) < (k : Int) := by omega
            rw [hsp]
            clear hz hx6 hx7
            go_wp2
            go_roundw
            case rel =>
              first
                | exact ⟨k + 1, by go_num, hlt, HBW.out.trans ((((Below.refl wr.heap.size wr).alloc (Nat.le_refl _) _).alloc (by simp) _).drew.mono HBW.out.size)⟩
                | ((repeat apply Exists.intro); exact ⟨⟨k + 1, by go_num, hlt, HBW.out.trans ((((Below.refl wr.heap.size wr).alloc (Nat.le_refl _) _).alloc (by simp) _).drew.mono HBW.out.size)⟩, rfl⟩)
            case measure => simp [intOf]; omega
      · have hkI : ¬ (k : Int) < (bn : Int) := by omega
        go_wp2_with (go_at_call 8; (with_reducible refine (awake9_any _).mono ?_); rintro e w3 ⟨rfl, hb3⟩; have HB3 : Hid (Below W.heap.size W w3) := Lib.hid (below_up HBK.out hb3); clear hb3)
        go_ret
        exact ⟨rfl, HB3.out⟩

end Go.Proofs.Ytjbgikhhdhadjaa

/-
  What may be defined is defined as it stands: the law, walked, where a macro is defined.
-/
namespace Go.Proofs.Ytjbgikhhdhadjaa
open Go.RowKit Go.Maps

set_option maxRecDepth 100000 in
set_option maxHeartbeats 12800000 in
theorem whole_good2 {T : List Xt} {v : Value} {W : World} {m : Xm} (h : ToksX T v W) (hf : fewB T 60 = true) (hp : parseL T = .inl m) (hfn : m.fn = true) (hva : m.va = false) : Calls Try.prog 5 #[v] W (TruePost W) := by
  obtain ⟨a, N, cap, rfl⟩ := h.form
  obtain ⟨f1, f2⟩ := few_is hf
  have HF : Hid (Calls Try.prog 24 #[.slice a N cap, .int .i64 60] W (BoolPost true W)) := Lib.hid (hf ▸ few_any h 60 (by omega))
  have HP : Hid (Calls Try.prog 19 #[.slice a N cap] W (GoodPost W m)) := Lib.hid (by
    have := parse_any h (by omega) (fun u hu => by have := (f2 u hu).2; omega) (fun u hu => by have := (f2 u hu).1; unfold maxLen; omega)
    rw [hp] at this
    exact this.mono fun _ _ h => good_post h)
  match T, h, hp with
  | [], h, hp => exact absurd hp whole_nil
  | t :: r, h, hp =>
    have hok := whole_ok hp
    obtain ⟨hn, hc1, hc2⟩ := h.len
    simp only [List.length_cons] at hn f1
    unfold maxLen at hc2
    obtain ⟨g, o, sa, sn, sc, rfl, hg, -, hx, -⟩ := h.get (k := 0) (t := t) rfl
    rw [Nat.zero_mul, Nat.add_zero] at hx
    have hne : ((N : Int) == 0) = false := by simp; omega
    have hN0 : (0 : Int) < (N : Int) := by omega
    have hN60 : (N : Int) ≤ 60 := by omega
    have HX := Lib.hid h
    have HT0 := Lib.hid hx
    have HG := Lib.hid hg
    have HN := Lib.hid hn
    have HBODY := Lib.hid hok.body
    have HK1 := Lib.hid hok.isK
    obtain ⟨nm, fn, va, ps, bd, mg, mf, mt⟩ := m
    have e1 := hok.isN
    have e2 := hok.isG
    have e3 := hok.isF
    have e4 := hok.isT
    have hkind := hok.kind
    simp only at e1 e2 e3 e4 hkind
    simp only at hfn hva
    subst e1 e2 e3 e4 hfn hva
    obtain ⟨nb, hnb⟩ : ∃ nb, bd.length = nb := ⟨_, rfl⟩
    obtain ⟨np, hnp⟩ : ∃ np, ps.length = np := ⟨_, rfl⟩
    rw [hnb, hnp] at hkind
    have HNB := Lib.hid hnb
    have HNP := Lib.hid hnp
    have hr1 : r.length + 1 = N := by omega
    have hq1 : ¬ (N : Int) - 1 < (nb : Int) := by
      rcases hkind with ⟨h1, -⟩ | ⟨-, -, h3⟩
      · cases h1
      · omega
    have hq2 : ¬ (N : Int) < 3 + (nb : Int) := by
      rcases hkind with ⟨h1, -⟩ | ⟨-, -, h3⟩
      · cases h1
      · omega
    have HR1 := Lib.hid hr1
    clear h hf hp hx hg hn f1 f2 hok hkind hnb hnp hr1
    go_enter Try.func5, Try.ntmps5
    go_wp2_with (first
      | (go_at_call 24; (with_reducible refine HF.out.mono ?_); rintro e w1 ⟨rfl, rfl⟩)
      | (go_at_call 19; (with_reducible refine HP.out.mono ?_); rintro e w1 ⟨pa, pn, pc, ba, bn, bc, rfl, hpn, hbn, hm1, hb1⟩; rw [HNP.out] at hpn; rw [HNB.out] at hbn; subst hpn hbn; have HM1 := Lib.hid hm1; have HB1 := Lib.hid hb1; have hg1 := HG.out; (obtain ⟨c0, c1, c2, c3, c4, c5, c6, c7⟩ := HT0.out.next hb1 HG.out); rw [HK1.out] at c0; (have hgs : g < w1.heap.size := Nat.lt_of_lt_of_le HG.out hb1.size); (have hgn : g ≠ w1.heap.size := by omega); (have hgm : w1.heap.size ≠ g := by omega); clear hm1 hb1 hg1))
    go_quiet (fail)
    go_wp2
    have hB12 : Below w1.heap.size w1 ((w1.alloc (Obj.cells #[.string t.x, .bool true, .bool false, .slice pa pn pc, .slice ba bn bc, .string t.g, .int .i64 t.f, .int .i64 t.t] 38)).drewN nq) := ((Below.refl _ _).alloc (Nat.le_refl _) _).trans ((Below.of_drews _ _).mono (by simp))
    have hQ2 : ((w1.alloc (Obj.cells #[.string t.x, .bool true, .bool false, .slice pa pn pc, .slice ba bn bc, .string t.g, .int .i64 t.f, .int .i64 t.t] 38)).drewN nq).heap[w1.heap.size]? = some (mObj ⟨t.x, true, false, ps, bd, t.g, t.f, t.t⟩ (.slice pa pn pc) (.slice ba bn bc)) := heap_alloc_new w1 _
    obtain ⟨w2, hw2⟩ : ∃ w2, ((w1.alloc (Obj.cells #[.string t.x, .bool true, .bool false, .slice pa pn pc, .slice ba bn bc, .string t.g, .int .i64 t.f, .int .i64 t.t] 38)).drewN nq) = w2 := ⟨_, rfl⟩
    obtain ⟨b3, hb3⟩ : ∃ b3, w1.heap.size = b3 := ⟨_, rfl⟩
    rw [hw2] at hB12 hQ2 ⊢
    have HB2 := Lib.hid (below_up HB1.out hB12)
    have HM2 := Lib.hid (HM1.out.2.over hB12)
    rw [hb3] at hQ2 ⊢
    have HX2 := Lib.hid (HX.out.over HB2.out)
    have HQ2 := Lib.hid hQ2
    clear hq1 hq2 hw2 hb3 hB12 hQ2 c0 c1 c2 c3 c4 c5 c6 c7 hgs hgn hgm HT0 HG HX HM1 HB1
    go_loopw [6] (fun s wr => ∃ k : Nat, s = .int .i64 (k : Int) ∧ k ≤ bn ∧ Below w2.heap.size w2 wr) (fun s _ => bn - (intOf s).toNat)
    case atStart => exact ⟨0, rfl, Nat.zero_le _, Below.refl _ _⟩
    case round =>
      obtain ⟨k, rfl, hk, hb⟩ := hrel
      obtain ⟨⟨y0, y1, y2, y3, y4, y5, y6, y7⟩, -⟩ := mObj_cells ((hb.block b3 (row_lt HQ2.out)).trans HQ2.out)
      simp only at y0 y1 y2 y3 y4 y5 y6 y7
      have HBK : Hid (Below W.heap.size W wr) := Lib.hid (below_up HB2.out hb)
      by_cases hlt : k < bn
      · obtain ⟨u, hu⟩ : ∃ u, bd[k]? = some u := ⟨_, List.getElem?_eq_getElem (by rw [HNB.out]; exact hlt)⟩
        obtain ⟨⟨vk, vx, vsp, vg, vf, vt, vd, vss⟩, hv, hx1, hx2, hx3, hx4, hx5, hx6, hx7⟩ := HBODY.out k u hu
        simp only at hv hx1 hx2 hx3 hx4 hx5 hx6 hx7
        subst hx1 hx2 hx3 hx4 hx5
        rw [HNB.out, HR1.out] at hv
        obtain ⟨gb, ob, ua, un, uc, rfl, hgb, -, hua, -⟩ := HM2.out.get hu
        obtain ⟨gv, ov, va', vn, vc, hge, hgv, -, hva, -⟩ := HX2.out.get hv
        simp only [Option.some.injEq, Addr.mk.injEq, and_true] at hge
        obtain ⟨rfl, rfl⟩ := hge
        obtain ⟨p0, p1, p2, p3, p4, p5, p6, p7⟩ := hua.next hb hgb
        obtain ⟨v0, v1, v2, v3, v4, v5, v6, v7⟩ := hva.next hb hgv
        simp only at v0 v1 v2 v3 v4 v5 v6 v7
        have hlb := (List.getElem?_eq_some_iff.1 hv).1
        simp only [List.length_cons] at hlb
        obtain ⟨dj, hdj⟩ : ∃ dj, N - bn = dj := ⟨_, rfl⟩
        obtain ⟨j, hj⟩ : ∃ j, dj + k = j := ⟨_, rfl⟩
        rw [hdj, hj] at v0 v1 v2 v3 v4 v5 v6 v7
        have hjN : (j : Int) < (N : Int) := by have := HR1.out; omega
        have hj0 : (0 : Int) ≤ (j : Int) := by omega
        have hkI : (k : Int) < (bn : Int) := by omega
        have hk0 : (0 : Int) ≤ (k : Int) := by omega
        have hgbs : gb < wr.heap.size := Nat.lt_of_lt_of_le hgb hb.size
        have hgvs : g < wr.heap.size := Nat.lt_of_lt_of_le hgv hb.size
        have hbs : b3 < wr.heap.size := Nat.lt_of_lt_of_le (row_lt HQ2.out) hb.size
        have n1 : gb ≠ wr.heap.size := by omega
        have n2 : g ≠ wr.heap.size := by omega
        have n3 : b3 ≠ wr.heap.size := by omega
        have n4 : wr.heap.size ≠ gb := by omega
        have n5 : wr.heap.size ≠ g := by omega
        have n6 : wr.heap.size ≠ b3 := by omega
        have s1 : (N : Int) - (bn : Int) = (dj : Int) := by omega
        have s2 : (dj : Int) + (k : Int) = (j : Int) := by omega
        have s3 : IntKind.i64.wrap ((N : Int) - (bn : Int)) = (dj : Int) := by rw [s1]; exact IntWalk.i64_in _ (by omega)
        have s4 : IntKind.i64.wrap ((dj : Int) + (k : Int)) = (j : Int) := by rw [s2]; exact IntWalk.i64_in _ (by omega)
        have HBW := Lib.hid hb
        clear hu hv hua hva hb hgb hgv hlb hdj hj s1 s2
        go_wp2
        go_region
        all_goals
          clear p0 p1 p2 p3 p4 p5 p6 p7 v0 v1 v2 v3 v4 v5 v6 v7 s3 s4
          by_cases hz : k = 0
          · have hsp := hx6 hz
            have hkz : ((k : Int) == 0) = true := by simp; omega
            have hkn : ¬ (0 : Int) < (k : Int) := by omega
            rw [hsp]
            clear hz hx6 hx7
            go_wp2
            go_roundw
            case rel => exact ⟨k + 1, by go_num, hlt, HBW.out.trans ((((Below.refl wr.heap.size wr).alloc (Nat.le_refl _) _).alloc (by simp) _).drew.mono HBW.out.size)⟩
            case measure => simp [intOf]; omega
          · have hsp := hx7 (by omega)
            have hkz : ((k : Int) == 0) = false := by simp; omega
            have hkn : (0 : Int) < (k : Int) := by omega
            rw [hsp]
            clear hz hx6 hx7
            go_wp2
            go_roundw
            case rel => exact ⟨k + 1, by go_num, hlt, HBW.out.trans ((((Below.refl wr.heap.size wr).alloc (Nat.le_refl _) _).alloc (by simp) _).drew.mono HBW.out.size)⟩
            case measure => simp [intOf]; omega
      · have hkI : ¬ (k : Int) < (bn : Int) := by omega
        go_wp2_with (go_at_call 8; (with_reducible refine (awake9_any _).mono ?_); rintro e w3 ⟨rfl, hb3⟩; have HB3 : Hid (Below W.heap.size W w3) := Lib.hid (below_up HBK.out hb3); clear hb3)
        go_ret
        exact ⟨rfl, HB3.out⟩

end Go.Proofs.Ytjbgikhhdhadjaa
