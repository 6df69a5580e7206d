/-
  FilesOrder: the walk.
-/
import Derived.Test.YtfjdfdpelilelaaDoorFOrder
namespace Go.Proofs.YtfjdfdpelilelaaDoor
open Go.RowKit

theorem orderVoid {a : Option Addr} {cap : Nat} (n : Nat) (s q : Bool) (W : World) (h : 8 < n) :
    Calls Tryd.prog 6 #[.slice a n cap, .bool s, .bool q] W fun e w' => e = .returned (.bool true) ∧ Below W.heap.size W w' := by
  have h1 : (8 : Int) < (n : Int) := by omega
  go_enter Tryd.func6, Tryd.ntmps6
  go_wp2_with (go_at_call 9; refine (fAwake_any _).mono ?_; rintro e w' ⟨rfl, hb⟩)
  go_ret
  exact ⟨rfl, hb⟩

def OrdRel1 (W : World) (n : Nat) (v i : Value) (wr : World) : Prop :=
  ∃ k : Nat, i = .int .i64 (k : Int) ∧ k ≤ n ∧ OwnStrs W.heap.size v (dirsN k) wr ∧ Below W.heap.size W wr

def OrdRel2 (W : World) (p : Nat) (bs : List Bool) (v want i : Value) (wr : World) : Prop :=
  ∃ (k m : Nat) (M : Mp) (t : Tab), i = .int .i64 ((k : Int) - 1) ∧ k ≤ bs.length ∧ m + k ≤ bs.length + 1 ∧ want = .string (optS ((firstH bs k).map fL)) ∧ OrdSt bs k m t ∧ LO W p t m M wr v (dirsN bs.length)

theorem dirsN_len (n : Nat) : (dirsN n).length = n := by simp [dirsN]
theorem dirsN_get {n i : Nat} (h : i < n) : (dirsN n)[i]? = some (dL i) := by simp [dirsN, h]

theorem ordNew {W w : World} {v : Value} {n : Nat} (hn : n ≤ 8) (hb : Below W.heap.size W w) (ho : OwnStrs W.heap.size v (dirsN n) w) :
    Calls Tryd.prog 10 #[v] w fun e w' => ∃ p, e = .returned (.tuple #[.pointer (some ⟨p, 0, none⟩), .int .i64 0]) ∧ LO W p (tab0 (dirsN n)) 0 (fun _ => none) w' v (dirsN n) := by
  obtain ⟨a, cap, rfl, hS⟩ := own_strsAt ho
  refine (newDirs_any (cap := cap) (dirsN n) w hS (by rw [dirsN_len]; omega) (fun x hx => ?_)).mono fun e w' hp => ?_
  · obtain ⟨j, -, rfl⟩ := List.mem_map.1 hx
    show 2 ≤ 1000
    decide
  · rcases hp with ⟨-, v, he, hst⟩ | ⟨hno, -⟩
    · exact ⟨_, he, LS.made hb hb.size hst.tbl hst.own hst.below, ho.same fun k _ h _ => (hst.below.block k (lt_of_heap h)).trans h⟩
    · rw [dirsN_ok n hn] at hno
      cases hno

theorem ord_find {W : World} {p : Nat} {t : Tab} {c : Nat} {M : Mp} {w : World} {v : Value} {xs : List (List UInt8)} (h : LO W p t c M w v xs) {bs : List Bool} {s : Bool} (he : OrdEnd bs s t) (hn : bs.length ≤ 8) (q : Bool) (n : ByteArray) (r : Option (List UInt8)) (hs : n.size ≤ 500) (hr : findT t srcA n.data.toList q = r) :
    Calls Tryd.prog 13 #[.pointer (some ⟨p, 0, none⟩), .string ⟨#[115, 114, 99, 47, 97, 46, 99]⟩, .string n, .bool q] w fun e w' => e = .returned (.tuple #[.string (optS r), .bool r.isSome]) ∧ LO W p t c M w' v xs := by
  have k := find_any h.ls.ft ⟨#[115, 114, 99, 47, 97, 46, 99]⟩ n q (by decide) hs (fun d hd => by
    rw [he.dirs] at hd
    obtain ⟨j, -, rfl⟩ := List.mem_map.1 hd
    show 2 ≤ 400
    decide) (by rw [he.dirs, dirsN_len]; omega)
  rw [show (⟨#[115, 114, 99, 47, 97, 46, 99]⟩ : ByteArray).data.toList = srcA from rfl, hr] at k
  exact k.mono fun e w' ⟨h1, h2⟩ => ⟨h1, h.below h2⟩

theorem optS_ne {l : List UInt8} (h : l ≠ []) : ¬ (optS (some l)).toList = [] ∧ (optS (some l)).toList.isEmpty = false := by
  have e : (optS (some l)).toList = l := by rw [ByteArray.toList_eq]; simp [optS]
  rw [e]
  exact ⟨h, by rw [List.isEmpty_eq_false_iff]; exact h⟩

set_option maxRecDepth 100000 in
set_option maxHeartbeats 6400000 in
theorem order_main {a : Option Addr} {cap : Nat} (bs : List Bool) (s q : Bool) (W : World) (hS : BoolsAt a bs W) (hn : bs.length ≤ 8) :
    Calls Tryd.prog 6 #[.slice a bs.length cap, .bool s, .bool q] W fun e w' => e = .returned (.bool true) ∧ Below W.heap.size W w' := by
  obtain ⟨i0, hi, hz0, hz1, hz2⟩ := info_parts Tryd.infoStr
  have hnot := not_run
  have HS := Lib.hid hS
  have h8 : ¬ ((8 : Int) < (bs.length : Int)) := by omega
  clear hS
  go_enter Tryd.func6, Tryd.ntmps6
  go_wp2_with fail
  go_loopw [7, 8] (OrdRel1 W bs.length) (fun _ i _ => bs.length - (intOf i).toNat)
  case atStart => exact ⟨0, rfl, Nat.zero_le _, World.ownsRow_nil _ _ _ _, Below.refl _ _⟩
  case round =>
    obtain ⟨k, rfl, hk, hown, hbel⟩ := hrel
    have HO := Lib.hid hown
    have HB := Lib.hid hbel
    clear hown hbel
    by_cases hlt : k < bs.length
    · have hki : (k : Int) < (bs.length : Int) := by omega
      have hcv := conv1 k wr
      have hz : (strOfNums [48 + (k : Int)]).size = 1 := by rw [strOfNums_size]; rfl
      have HC := Lib.hid (d_cat k)
      obtain ⟨z, hzz⟩ : ∃ z, strOfNums [48 + (k : Int)] = z := ⟨_, rfl⟩
      rw [hzz] at hcv hz HC
      have hcat : ¬ 9223372036854775807 < 1 + z.size := by omega
      have hln := dirsN_len k
      clear hzz hz
      go_wp2_with (at_builtin; refine wpList_append_own _ rfl _ _ 22 rfl W.heap.size 9 i0 (.string ⟨#[]⟩) 1 16 Tryd.underlying22 hi hz0 hz1 hz2 rfl (by decide) _ _ _ rfl (World.ownsRow.alloc (World.ownsRow.alloc HO.out _) _) ⟨wr.heap.size + 1, 0, none⟩ 1 1 [.string (⟨#[100]⟩ ++ z)] rfl rfl ?c1 ?c2 ?c3 ?c4 ?c5 ?_)
      case c1 =>
        intro j u hj
        match j, hj with
        | 0, hj => simp at hj; subst hj; simp only [Addr.add]; exact one_cell2
      case c2 => intro u hu; simp at hu; subst hu; rfl
      case c3 => unfold maxLen; omega
      case c4 => omega
      case c5 => have := HB.out.size; simp; omega
      intro v' w1 hown' hgrow _
      have hbel1 : Below W.heap.size W w1 := ((HB.out.alloc HB.out.size _).alloc (by have := HB.out.size; simp; omega) _).grown hgrow (by have := HB.out.size; simp; omega) (fun g hg => (World.ownsRow.lt HO.out g hg).1)
      rw [HC.out] at hown'
      have ho2 : OwnStrs W.heap.size v' (dirsN (k + 1)) w1 := by
        rw [dirsN_succ]
        exact own_put (xs := dirsN k) (x := dL k) (by rw [hln]; exact hown')
      have HO' := Lib.hid ho2
      have HB' := Lib.hid hbel1
      clear hown' hgrow hbel1 ho2
      go_wp2
      go_roundw
      case rel => exact ⟨k + 1, by go_num, hlt, HO'.out, HB'.out⟩
      case measure => simp [intOf]; omega
    · obtain rfl : k = bs.length := by omega
      have hge : ¬ ((bs.length : Int) < (bs.length : Int)) := by omega
      go_wp2_with fail
      refine (ordNew hn HB.out HO.out).mono ?_
      rintro e w1 ⟨p, rfl, l1⟩
      have L1 := Lib.hid l1
      clear l1
      have kc := L1.out.create ⟨#[115, 114, 99, 47, 97, 46, 99]⟩ ⟨#[]⟩ (by decide) (by decide) rfl (by show 0 < 1000000; decide) (by decide) (by decide) (by show 0 < 1000000; decide)
      have KC := Lib.hid kc
      clear kc
      go_wp2_with fail
      refine KC.out.mono ?_
      rintro e w2 ⟨rfl, M2, t2, b2, o2, d2, l2⟩
      have ST := Lib.hid (ord_start d2)
      have L2 := Lib.hid l2
      clear d2 l2
      have hfe : optS ((firstH bs bs.length).map fL) = ⟨#[]⟩ := by rw [first_end (Nat.le_refl _)]; rfl
      have HFE := Lib.hid hfe
      clear hfe
      go_wp2_with fail
      go_loopw [11, 12] (OrdRel2 W p bs u7) (fun _ i _ => (intOf i + 1).toNat)
      case atStart => exact ⟨bs.length, 1, M2, t2, rfl, Nat.le_refl _, by omega, by rw [HFE.out], ST.out, L2.out⟩
      case round =>
        obtain ⟨k, m, M, t, rfl, hk, hmk, rfl, hst, hls⟩ := hrel
        have OT := Lib.hid hst
        have LO1 := Lib.hid hls
        clear hst hls
        cases k with
        | succ k =>
          rw [show (((k + 1 : Nat) : Int) - 1) = (k : Int) from by omega]
          have hkl : k < bs.length := by omega
          have hki : (k : Int) < (bs.length : Int) := by omega
          have hk0 : (0 : Int) ≤ (k : Int) := by omega
          obtain ⟨x, hx⟩ : ∃ x, bs[k]? = some x := ⟨_, List.getElem?_eq_getElem hkl⟩
          obtain ⟨ad, had, hadl, hcell0⟩ := HS.out k x hx
          subst had
          have hcell := (LO1.out.ls.ended.cell (p := ad.add k) (by rw [add_block]; exact hadl)).trans hcell0
          have hgd : bs.getD k false = x := by rw [List.getD, hx]; rfl
          have hfs := first_step hkl
          rw [hgd] at hfs
          clear hcell0 hx
          cases x with
          | false =>
            have hfs2 : firstH bs k = firstH bs (k + 1) := by rw [hfs]; rfl
            have OT2 := Lib.hid (ord_skip OT.out (by omega) hgd)
            have HFS := Lib.hid hfs2
            clear hfs hfs2 hgd
            go_wp2
            go_roundw
            case rel => exact ⟨k, m, M, t, rfl, by omega, by omega, by rw [HFS.out], OT2.out, LO1.out⟩
            case measure => simp [intOf]
          | true =>
            have hfs2 : firstH bs k = some k := by rw [hfs]; rfl
            obtain ⟨g, cp, hv, -, -, -, hcl⟩ := OwnStrs.form LO1.out.own (by rw [dirsN_len]; omega)
            have hc2 : wr.cell? ⟨g, k, none⟩ = some (.string (dS k)) := hcl k _ (dirsN_get hkl)
            have hz : (dS k).size = 2 := rfl
            have HC := Lib.hid (f_cat k)
            have kc := LO1.out.create (fS k) ⟨#[]⟩ (by show 8 ≤ 1000; decide) (f_valid k (by omega)) (OT.out.notF k (by omega) (by omega)) (by have := OT.out.ver (fL k); show t.ver (fL k) < 1000000; omega) (by omega) (by decide) (by have := OT.out.len; omega)
            have KC := Lib.hid kc
            have HFS : Hid (.string (fS k) = Value.string (optS ((firstH bs k).map fL))) := Lib.hid (by rw [hfs2]; rfl)
            have HP := Lib.hid (fun t' b o (d : Did t t' (fS k).data.toList (some (b, o))) => ord_put OT.out hn hkl hgd d)
            obtain ⟨Z, hZ⟩ : ∃ Z, dS k = Z := ⟨_, rfl⟩
            rw [hZ] at hc2 hz HC
            have hcat : ¬ 9223372036854775807 < Z.size + 6 := by omega
            rw [dirsN_len] at hv
            clear hfs hfs2 hgd kc hcl hZ hz
            subst hv
            go_wp2_with fail
            rw [HC.out]
            go_wp2_with (go_at_call 11; refine KC.out.mono ?_; rintro e w3 ⟨rfl, M3, t3, b3, o3, d3, l3⟩; have D3 := Lib.hid (HP.out _ _ _ d3); have L3 := Lib.hid l3; clear d3 l3)
            go_roundw
            case rel => exact ⟨k, m + 1, M3, t3, rfl, by omega, by omega, HFS.out, D3.out, L3.out⟩
            case measure => simp [intOf]
        | zero =>
          rw [show (((0 : Nat) : Int) - 1) = -1 from rfl]
          cases s with
          | false =>
            have EN := Lib.hid (ord_end OT.out)
            have LE := LO1
            obtain ⟨tE, htE⟩ : ∃ x, x = t := ⟨_, rfl⟩
            obtain ⟨cE, hcE⟩ : ∃ x, x = m := ⟨_, rfl⟩
            obtain ⟨ME, hME⟩ : ∃ x, x = M := ⟨_, rfl⟩
            subst htE hcE hME
            cases q with
            | false =>
              have hr : ordR bs false false = ordR bs false false := rfl
              have F1 := Lib.hid (fun X (l : LO W p tE cE ME X u7 (dirsN bs.length)) => ord_find l EN.out hn false ⟨#[120, 47, 121, 46, 104]⟩ (ordR bs false false) (by decide) (find_ord EN.out hn false n1 j1 k1))
              have F2 := Lib.hid (fun X (l : LO W p tE cE ME X u7 (dirsN bs.length)) => ord_find l EN.out hn false ⟨#[122, 47, 46, 46, 47, 120, 47, 46, 47, 121, 46, 104]⟩ (ordR bs false false) (by decide) (find_ord EN.out hn false n2 j2 k2))
              have F3 := Lib.hid (fun X (l : LO W p tE cE ME X u7 (dirsN bs.length)) => ord_find l EN.out hn false ⟨#[121, 46, 104]⟩ none (by decide) (find_not EN.out hn false))
              clear hr
              have HNE := Lib.hid (fun l (h : ordR bs false false = some l) => ordR_ne h)
              rw [show (firstH bs 0).map fL = ordR bs false false from rfl]
              generalize ordR bs false false = r at F1 F2 HNE ⊢
              cases r with
              | none =>
                rw [show optS none = ⟨#[]⟩ from rfl, show (none : Option (List UInt8)).isSome = false from rfl] at F1 F2
                rw [show optS none = ⟨#[]⟩ from rfl] at F3 ⊢
                rw [show (none : Option (List UInt8)).isSome = false from rfl] at F3
                go_wp2_with (first
                  | (go_at_call 13; (with_reducible refine (F1.out _ LE.out).mono ?_); rintro e y1 ⟨rfl, l1⟩; have A1 := Lib.hid l1; clear l1)
                  | (go_at_call 13; (with_reducible refine (F2.out _ A1.out).mono ?_); rintro e y2 ⟨rfl, l2⟩; have A2 := Lib.hid l2; clear l2)
                  | (go_at_call 13; (with_reducible refine (F3.out _ A2.out).mono ?_); rintro e y3 ⟨rfl, l3⟩; have A3 := Lib.hid l3; clear l3)
                  | (go_at_call 9; refine (fAwake_any _).mono ?_; rintro e y4 ⟨rfl, b4⟩; have A4 := Lib.hid (A3.out.below b4); clear b4))
                go_ret
                exact ⟨rfl, A4.out.ls.ended⟩
              | some l =>
                obtain ⟨e1, e2⟩ := optS_ne (HNE.out l rfl)
                rw [show (some l).isSome = true from rfl] at F1 F2
                rw [show optS none = ⟨#[]⟩ from rfl, show (none : Option (List UInt8)).isSome = false from rfl] at F3
                generalize optS (some l) = Z at F1 F2 e1 e2 ⊢
                go_wp2_with (first
                  | (go_at_call 13; (with_reducible refine (F1.out _ LE.out).mono ?_); rintro e y1 ⟨rfl, l1⟩; have A1 := Lib.hid l1; clear l1)
                  | (go_at_call 13; (with_reducible refine (F2.out _ A1.out).mono ?_); rintro e y2 ⟨rfl, l2⟩; have A2 := Lib.hid l2; clear l2)
                  | (go_at_call 13; (with_reducible refine (F3.out _ A2.out).mono ?_); rintro e y3 ⟨rfl, l3⟩; have A3 := Lib.hid l3; clear l3)
                  | (go_at_call 9; refine (fAwake_any _).mono ?_; rintro e y4 ⟨rfl, b4⟩; have A4 := Lib.hid (A3.out.below b4); clear b4))
                go_ret
                exact ⟨rfl, A4.out.ls.ended⟩
            | true =>
              have hr : ordR bs false true = ordR bs false true := rfl
              have F1 := Lib.hid (fun X (l : LO W p tE cE ME X u7 (dirsN bs.length)) => ord_find l EN.out hn true ⟨#[120, 47, 121, 46, 104]⟩ (ordR bs false true) (by decide) (find_ord EN.out hn true n1 j1 k1))
              have F2 := Lib.hid (fun X (l : LO W p tE cE ME X u7 (dirsN bs.length)) => ord_find l EN.out hn true ⟨#[122, 47, 46, 46, 47, 120, 47, 46, 47, 121, 46, 104]⟩ (ordR bs false true) (by decide) (find_ord EN.out hn true n2 j2 k2))
              have F3 := Lib.hid (fun X (l : LO W p tE cE ME X u7 (dirsN bs.length)) => ord_find l EN.out hn true ⟨#[121, 46, 104]⟩ none (by decide) (find_not EN.out hn true))
              clear hr
              have HNE := Lib.hid (fun l (h : ordR bs false true = some l) => ordR_ne h)
              rw [show (firstH bs 0).map fL = ordR bs false true from rfl]
              generalize ordR bs false true = r at F1 F2 HNE ⊢
              cases r with
              | none =>
                rw [show optS none = ⟨#[]⟩ from rfl, show (none : Option (List UInt8)).isSome = false from rfl] at F1 F2
                rw [show optS none = ⟨#[]⟩ from rfl] at F3 ⊢
                rw [show (none : Option (List UInt8)).isSome = false from rfl] at F3
                go_wp2_with (first
                  | (go_at_call 13; (with_reducible refine (F1.out _ LE.out).mono ?_); rintro e y1 ⟨rfl, l1⟩; have A1 := Lib.hid l1; clear l1)
                  | (go_at_call 13; (with_reducible refine (F2.out _ A1.out).mono ?_); rintro e y2 ⟨rfl, l2⟩; have A2 := Lib.hid l2; clear l2)
                  | (go_at_call 13; (with_reducible refine (F3.out _ A2.out).mono ?_); rintro e y3 ⟨rfl, l3⟩; have A3 := Lib.hid l3; clear l3)
                  | (go_at_call 9; refine (fAwake_any _).mono ?_; rintro e y4 ⟨rfl, b4⟩; have A4 := Lib.hid (A3.out.below b4); clear b4))
                go_ret
                exact ⟨rfl, A4.out.ls.ended⟩
              | some l =>
                obtain ⟨e1, e2⟩ := optS_ne (HNE.out l rfl)
                rw [show (some l).isSome = true from rfl] at F1 F2
                rw [show optS none = ⟨#[]⟩ from rfl, show (none : Option (List UInt8)).isSome = false from rfl] at F3
                generalize optS (some l) = Z at F1 F2 e1 e2 ⊢
                go_wp2_with (first
                  | (go_at_call 13; (with_reducible refine (F1.out _ LE.out).mono ?_); rintro e y1 ⟨rfl, l1⟩; have A1 := Lib.hid l1; clear l1)
                  | (go_at_call 13; (with_reducible refine (F2.out _ A1.out).mono ?_); rintro e y2 ⟨rfl, l2⟩; have A2 := Lib.hid l2; clear l2)
                  | (go_at_call 13; (with_reducible refine (F3.out _ A2.out).mono ?_); rintro e y3 ⟨rfl, l3⟩; have A3 := Lib.hid l3; clear l3)
                  | (go_at_call 9; refine (fAwake_any _).mono ?_; rintro e y4 ⟨rfl, b4⟩; have A4 := Lib.hid (A3.out.below b4); clear b4))
                go_ret
                exact ⟨rfl, A4.out.ls.ended⟩
          | true =>
            have kc := LO1.out.create ⟨#[115, 114, 99, 47, 120, 47, 121, 46, 104]⟩ ⟨#[]⟩ (by decide) (by decide) OT.out.xy (by have := OT.out.ver srcXY; show t.ver srcXY < 1000000; omega) (by omega) (by decide) (by have := OT.out.len; omega)
            have KC := Lib.hid kc
            have HP := Lib.hid (fun t' b o (d : Did t t' srcXY (some (b, o))) => ord_beside OT.out hn d)
            clear kc
            cases q with
            | false =>
              go_wp2_with (go_at_call 11; refine KC.out.mono ?_; rintro e w3 ⟨rfl, ME, tE, bE, oE, dE, lE⟩; have EN := Lib.hid (HP.out _ _ _ dE); have LE := Lib.hid lE; clear dE lE)
              obtain ⟨cE, hcE⟩ : ∃ x, m + 1 = x := ⟨_, rfl⟩
              rw [hcE] at LE
              clear hcE
              have hr : ordR bs true false = ordR bs true false := rfl
              have F1 := Lib.hid (fun X (l : LO W p tE cE ME X u7 (dirsN bs.length)) => ord_find l EN.out hn false ⟨#[120, 47, 121, 46, 104]⟩ (ordR bs true false) (by decide) (find_ord EN.out hn false n1 j1 k1))
              have F2 := Lib.hid (fun X (l : LO W p tE cE ME X u7 (dirsN bs.length)) => ord_find l EN.out hn false ⟨#[122, 47, 46, 46, 47, 120, 47, 46, 47, 121, 46, 104]⟩ (ordR bs true false) (by decide) (find_ord EN.out hn false n2 j2 k2))
              have F3 := Lib.hid (fun X (l : LO W p tE cE ME X u7 (dirsN bs.length)) => ord_find l EN.out hn false ⟨#[121, 46, 104]⟩ none (by decide) (find_not EN.out hn false))
              clear hr
              have HNE := Lib.hid (fun l (h : ordR bs true false = some l) => ordR_ne h)
              rw [show (firstH bs 0).map fL = ordR bs true false from rfl]
              generalize ordR bs true false = r at F1 F2 HNE ⊢
              cases r with
              | none =>
                rw [show optS none = ⟨#[]⟩ from rfl, show (none : Option (List UInt8)).isSome = false from rfl] at F1 F2
                rw [show optS none = ⟨#[]⟩ from rfl] at F3 ⊢
                rw [show (none : Option (List UInt8)).isSome = false from rfl] at F3
                go_wp2_with (first
                  | (go_at_call 13; (with_reducible refine (F1.out _ LE.out).mono ?_); rintro e y1 ⟨rfl, l1⟩; have A1 := Lib.hid l1; clear l1)
                  | (go_at_call 13; (with_reducible refine (F2.out _ A1.out).mono ?_); rintro e y2 ⟨rfl, l2⟩; have A2 := Lib.hid l2; clear l2)
                  | (go_at_call 13; (with_reducible refine (F3.out _ A2.out).mono ?_); rintro e y3 ⟨rfl, l3⟩; have A3 := Lib.hid l3; clear l3)
                  | (go_at_call 9; refine (fAwake_any _).mono ?_; rintro e y4 ⟨rfl, b4⟩; have A4 := Lib.hid (A3.out.below b4); clear b4))
                go_ret
                exact ⟨rfl, A4.out.ls.ended⟩
              | some l =>
                obtain ⟨e1, e2⟩ := optS_ne (HNE.out l rfl)
                rw [show (some l).isSome = true from rfl] at F1 F2
                rw [show optS none = ⟨#[]⟩ from rfl, show (none : Option (List UInt8)).isSome = false from rfl] at F3
                generalize optS (some l) = Z at F1 F2 e1 e2 ⊢
                go_wp2_with (first
                  | (go_at_call 13; (with_reducible refine (F1.out _ LE.out).mono ?_); rintro e y1 ⟨rfl, l1⟩; have A1 := Lib.hid l1; clear l1)
                  | (go_at_call 13; (with_reducible refine (F2.out _ A1.out).mono ?_); rintro e y2 ⟨rfl, l2⟩; have A2 := Lib.hid l2; clear l2)
                  | (go_at_call 13; (with_reducible refine (F3.out _ A2.out).mono ?_); rintro e y3 ⟨rfl, l3⟩; have A3 := Lib.hid l3; clear l3)
                  | (go_at_call 9; refine (fAwake_any _).mono ?_; rintro e y4 ⟨rfl, b4⟩; have A4 := Lib.hid (A3.out.below b4); clear b4))
                go_ret
                exact ⟨rfl, A4.out.ls.ended⟩
            | true =>
              go_wp2_with (go_at_call 11; refine KC.out.mono ?_; rintro e w3 ⟨rfl, ME, tE, bE, oE, dE, lE⟩; have EN := Lib.hid (HP.out _ _ _ dE); have LE := Lib.hid lE; clear dE lE)
              obtain ⟨cE, hcE⟩ : ∃ x, m + 1 = x := ⟨_, rfl⟩
              rw [hcE] at LE
              clear hcE
              have hr : ordR bs true true = ordR bs true true := rfl
              have F1 := Lib.hid (fun X (l : LO W p tE cE ME X u7 (dirsN bs.length)) => ord_find l EN.out hn true ⟨#[120, 47, 121, 46, 104]⟩ (ordR bs true true) (by decide) (find_ord EN.out hn true n1 j1 k1))
              have F2 := Lib.hid (fun X (l : LO W p tE cE ME X u7 (dirsN bs.length)) => ord_find l EN.out hn true ⟨#[122, 47, 46, 46, 47, 120, 47, 46, 47, 121, 46, 104]⟩ (ordR bs true true) (by decide) (find_ord EN.out hn true n2 j2 k2))
              have F3 := Lib.hid (fun X (l : LO W p tE cE ME X u7 (dirsN bs.length)) => ord_find l EN.out hn true ⟨#[121, 46, 104]⟩ none (by decide) (find_not EN.out hn true))
              clear hr
              have HNE := Lib.hid (fun l (h : ordR bs true true = some l) => ordR_ne h)
              rw [show ordR bs true true = some srcXY from rfl] at F1 F2
              clear HNE
              obtain ⟨e1, e2⟩ := optS_ne (l := srcXY) (by decide)
              rw [show (some srcXY).isSome = true from rfl] at F1 F2
              rw [show optS none = ⟨#[]⟩ from rfl, show (none : Option (List UInt8)).isSome = false from rfl] at F3
              rw [show optS (some srcXY) = ⟨#[115, 114, 99, 47, 120, 47, 121, 46, 104]⟩ from rfl] at F1 F2 e1 e2
              generalize (⟨#[115, 114, 99, 47, 120, 47, 121, 46, 104]⟩ : ByteArray) = Z at F1 F2 e1 e2 ⊢
              go_wp2_with (first
                | (go_at_call 13; (with_reducible refine (F1.out _ LE.out).mono ?_); rintro e y1 ⟨rfl, l1⟩; have A1 := Lib.hid l1; clear l1)
                | (go_at_call 13; (with_reducible refine (F2.out _ A1.out).mono ?_); rintro e y2 ⟨rfl, l2⟩; have A2 := Lib.hid l2; clear l2)
                | (go_at_call 13; (with_reducible refine (F3.out _ A2.out).mono ?_); rintro e y3 ⟨rfl, l3⟩; have A3 := Lib.hid l3; clear l3)
                | (go_at_call 9; refine (fAwake_any _).mono ?_; rintro e y4 ⟨rfl, b4⟩; have A4 := Lib.hid (A3.out.below b4); clear b4))
              go_ret
              exact ⟨rfl, A4.out.ls.ended⟩

theorem read_bools {H : Type} {enc : TypeId × Value → H} {W : World} {base : Nat} {held : Bool} {fuel : Nat} {a : Option Addr} {len cap : Nat} {x : DataW H × List MemPlace}
    (h : DataW.trod enc Tryd.prog W base (fun _ => true) held fuel 53 (Value.cells (.slice a len cap)).toList = some x) :
    ∃ bs : List Bool, bs.length = len ∧ BoolsAt a bs W ∧ len ≤ 9223372036854775807 ∧ True := by
  rcases Go.Deep.open_bools Tryd.underlying53 Tryd.underlying4 (by kernel_rfl) h with ⟨hcs, -⟩ | ⟨a0, len', cap', B, hcs, -, hl, hm, -, hcell⟩
  · simp [Value.cells] at hcs
    obtain ⟨rfl, rfl, rfl⟩ := hcs
    exact ⟨[], rfl, fun i x hx => by simp at hx, by decide, trivial⟩
  · simp [Value.cells] at hcs
    obtain ⟨rfl, rfl, rfl⟩ := hcs
    unfold maxLen at hm
    refine ⟨(List.range len).map B, by simp, fun i x hx => ?_, by omega, trivial⟩
    have hi : i < len := by
      rcases Nat.lt_or_ge i len with h | h
      · exact h
      · rw [List.getElem?_eq_none (by simpa using h)] at hx; cases hx
    rw [List.getElem?_map, List.getElem?_range hi] at hx
    cases hx
    have hc := hcell i (by omega)
    have hlt := World.block_lt_of_cell? W _ hc
    rw [add_block] at hlt
    exact ⟨_, rfl, hlt, hc⟩

theorem order_all {a : Option Addr} {cap : Nat} (bs : List Bool) (s q : Bool) (W : World) (hS : BoolsAt a bs W) (_ : bs.length ≤ 9223372036854775807) (_ : True) :
    Calls Tryd.prog 6 #[.slice a bs.length cap, .bool s, .bool q] W fun e w' => e = .returned (.bool true) ∧ Below W.heap.size W w' := by
  by_cases h : 8 < bs.length
  · exact orderVoid bs.length s q W h
  · exact order_main bs s q W hS (by omega)

end Go.Proofs.YtfjdfdpelilelaaDoor
