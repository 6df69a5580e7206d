/-
  PathsParts: the walk.
-/
import Derived.Test.YtikkfkchbdejkaaDoorPKeepLaw
namespace Go.Proofs.YtikkfkchbdejkaaDoor
open Go.RowKit

/-- The argument: a list of texts that came in. -/
def Came (a : Addr) (xs : List ByteArray) (w : World) : Prop := ∀ i x, xs[i]? = some x → w.cell? (a.add i) = some (.string x)

theorem add0 (a : Addr) : a.add 0 = a := by simp [Addr.add]

theorem Came.later {a : Addr} {xs : List ByteArray} {w w' : World} (h : Came a xs w) (ha : a.block < w.heap.size) (hb : Below w.heap.size w w') : Came a xs w' := by
  intro i x hx
  rw [hb.cell (by unfold Addr.add; split <;> exact ha)]
  exact h i x hx

def good (x : ByteArray) : Prop := partB x.data.toList = true ∧ x.size ≤ 10

def lists (xs : List ByteArray) : List (List UInt8) := xs.map fun x => x.data.toList

theorem good_of {x : ByteArray} (h1 : validB x.data.toList = true) (h2 : (partsL x.data.toList).length = 1) (h3 : x.size ≤ 10) : good x := by
  refine ⟨?_, h3⟩
  have hp := validB_parts h1
  have hj := joinL_parts x.data.toList
  cases hk : partsL x.data.toList with
  | nil => rw [hk] at h2; cases h2
  | cons y r =>
    rw [hk] at h2 hp hj
    cases r with
    | cons z t => simp at h2
    | nil =>
      have : y = x.data.toList := by simpa [joinL, joinAux] using hj
      rw [← this]
      simpa using hp

theorem good_valid {x : ByteArray} (h : good x) : validB x.data.toList = true ∧ partsL x.data.toList = [x.data.toList] := by
  have hp := partsL_whole _ (partB_free h.1)
  refine ⟨validB_of ?_ ?_, hp⟩
  · rw [bsize]
    have := h.2
    omega
  · rw [hp]
    simp [h.1]

theorem sum_good (xs : List ByteArray) (h : ∀ x ∈ xs, good x) : sumLen (lists xs) ≤ 10 * xs.length := by
  induction xs with
  | nil => simp [lists, sumLen]
  | cons x r ih =>
    have h1 := ih (fun y hy => h y (by simp [hy]))
    have h2 := (h x (by simp)).2
    simp only [lists, sumLen, List.map_cons, List.sum_cons, List.length_cons, bsize] at h1 ⊢
    omega

theorem lists_take (xs : List ByteArray) (n : Nat) : lists (xs.take n) = (lists xs).take n := by simp [lists]
theorem lists_len (xs : List ByteArray) : (lists xs).length = xs.length := by simp [lists]
theorem lists_at {xs : List ByteArray} {i : Nat} {x : ByteArray} (h : xs[i]? = some x) : (lists xs)[i]? = some x.data.toList := by simp [lists, h]

theorem join_good_len {xs : List ByteArray} (h : ∀ x ∈ xs, good x) (hn : xs.length ≤ 6) (k : Nat) : (joinL ((lists xs).take k)).length ≤ 66 := by
  have h1 := joinL_len ((lists xs).take k)
  have h2 := sumLen_le (lists xs) k
  have h3 := sum_good xs h
  rw [List.length_take, lists_len] at h1
  omega

def AddRel (W : World) (xs : List ByteArray) (p i : Value) (wr : World) : Prop :=
  ∃ (k : Nat) (P : ByteArray), p = .string P ∧ i = .int .i64 (k : Int) ∧ k ≤ xs.length ∧ (∀ x ∈ xs.take k, good x) ∧ P.data.toList = joinL ((lists xs).take k) ∧ Below W.heap.size W wr

def UpsRel (P : ByteArray) (m : Nat) (s i : Value) : Prop :=
  ∃ (j : Nat) (S : ByteArray), s = .string S ∧ i = .int .i64 (j : Int) ∧ j ≤ m ∧ S.data.toList = P.data.toList ++ ups2L j

def WantRel (xs : List ByteArray) (m : Nat) (s i : Value) : Prop :=
  ∃ (j : Nat) (S : ByteArray), s = .string S ∧ i = .int .i64 (j : Int) ∧ 1 ≤ j ∧ j ≤ m ∧ S.data.toList = joinL ((lists xs).take j)

theorem ups2L_len (n : Nat) : (ups2L n).length = 3 * n := by
  induction n with
  | zero => rfl
  | succ n ih => rw [ups2L, List.length_append, ih]; simp; omega

set_option maxHeartbeats 6400000 in
set_option maxRecDepth 100000 in
theorem parts_main (a : Addr) (cap : Nat) (xs : List ByteArray) (m : Nat) (w : World) (ha : a.block < w.heap.size) (hn1 : 1 ≤ xs.length) (hn6 : xs.length ≤ 6) (hm : m ≤ 8) (hc : Came a xs w) :
    Calls Tryd.prog 5 #[.slice (some a) xs.length cap, .int .i64 (m : Int)] w fun e w' => e = .returned (.bool true) ∧ Below w.heap.size w w' := by
  have hnot : ∀ (x : Bool) (w : World), (Op.unary .not (.bool x)).run Tryd.prog w = .ok (.bool (!x)) w := fun _ _ => rfl
  have HC := Lib.hid hc
  clear hc
  have e1 : ((xs.length : Int) == 0) = false := by rw [beq_eq_false_iff_ne]; omega
  have e2 : ¬ (6 : Int) < (xs.length : Int) := by omega
  have e3 : ¬ (m : Int) < 0 := by omega
  have e4 : ¬ (8 : Int) < (m : Int) := by omega
  go_enter Tryd.func5, Tryd.ntmps5
  go_wp2
  go_loopw [5, 6] (AddRel w xs) (fun _ i _ => xs.length - (intOf i).toNat)
  case atStart => exact ⟨0, ⟨#[]⟩, rfl, rfl, Nat.zero_le _, (by simp), rfl, Below.refl _ _⟩
  case round =>
    obtain ⟨k, P, rfl, rfl, hk, hg, hP, hb⟩ := hrel
    have HG := Lib.hid hg
    have HP := Lib.hid hP
    have HB := Lib.hid hb
    clear hg hP hb
    by_cases hlt : k < xs.length
    · obtain ⟨x, hx⟩ : ∃ x, xs[k]? = some x := ⟨_, List.getElem?_eq_getElem hlt⟩
      have hcell := HC.out.later ha HB.out k x hx
      have HX := Lib.hid hx
      clear hx
      cases hv : validB x.data.toList with
      | false =>
        have V1 := Lib.hid (fun w => valid_any x w)
        rw [hv] at V1
        clear hv
        go_wp2_with (first
          | (go_at_call 12; (with_reducible refine (V1.out _).mono ?_); rintro e w1 ⟨rfl, b1⟩; have B1 := Lib.hid (HB.out.trans (b1.mono HB.out.size)); clear b1)
          | (go_at_call 6; (with_reducible refine (awake_any _).mono ?_); rintro e w9 ⟨rfl, b9⟩; have B9 := Lib.hid (B1.out.trans (b9.mono B1.out.size)); clear b9))
        go_ret
        exact ⟨rfl, B9.out⟩
      | true =>
        have hxs := valid_size hv
        have V1 := Lib.hid (fun w => valid_any x w)
        rw [hv] at V1
        have P1 : Hid (∀ w, Calls Tryd.prog 15 #[.string x] w fun e w' => (∃ g cap, e = .returned (.slice (some ⟨g, 0, none⟩) (partsL x.data.toList).length cap)) ∧ Below w.heap.size w w') := by
          intro w
          refine (parts_any x w (by omega)).mono ?_
          rintro e w' ⟨v, rfl, hown, hb⟩
          obtain ⟨g, cap, rfl, -⟩ := OwnStrs.form hown (partsAux_pos _ _)
          exact ⟨⟨g, cap, rfl⟩, hb⟩
        have hgd := fun h2 h3 => good_of hv h2 h3
        obtain ⟨L, hL⟩ : ∃ L, (partsL x.data.toList).length = L := ⟨_, rfl⟩
        rw [hL] at P1 hgd
        have HGD := Lib.hid hgd
        clear hv hgd hL
        by_cases hL1 : L = 1
        · have l1 : ((L : Int) != 1) = false := by simp [hL1]
          by_cases hx10 : x.size ≤ 10
          · have l2 : ¬ (10 : Int) < (x.size : Int) := by omega
            have hgx : good x := HGD.out hL1 hx10
            have hg2 : ∀ y ∈ xs.take (k + 1), good y := by
              intro y hy
              rw [List.take_add_one, HX.out] at hy
              rcases List.mem_append.1 hy with hy | hy
              · exact HG.out y hy
              · simp at hy; subst hy; exact hgx
            have hPs : P.size ≤ 66 := by
              rw [← bsize, HP.out, ← lists_take]
              have h1 := joinL_len (lists (xs.take k))
              have h2 := sum_good _ HG.out
              rw [lists_len, List.length_take] at h1
              rw [List.length_take] at h2
              omega
            have hjn := joinL_take (lists_at HX.out)
            have HG2 := Lib.hid hg2
            have HJN := Lib.hid hjn
            clear hg2 hjn hgx
            rcases Nat.eq_zero_or_pos k with h0 | h0
            · subst h0
              rw [add0] at hcell
              have hcat := catFits (a := P) (b := x) (by omega)
              go_wp2_with (first
                | (go_at_call 12; (with_reducible refine (V1.out _).mono ?_); rintro e w1 ⟨rfl, b1⟩; have B1 := Lib.hid (HB.out.trans (b1.mono HB.out.size)); have hcell1 := HC.out.later ha B1.out 0 x HX.out; rw [add0] at hcell1; clear b1)
                | (go_at_call 15; (with_reducible refine (P1.out _).mono ?_); rintro e w2 ⟨⟨g, cp, rfl⟩, b2⟩; have B2 := Lib.hid (B1.out.trans (b2.mono B1.out.size)); have hcell2 := HC.out.later ha B2.out 0 x HX.out; rw [add0] at hcell2; clear b2))
              go_roundw
              case rel =>
                refine ⟨1, P ++ x, rfl, by go_num, hlt, HG2.out, ?_, B2.out⟩
                rw [cat_list, HP.out, HJN.out]
                simp [joinL]
              case measure => simp [intOf]; omega
            · have hcat1 := catFits (a := P) (b := ⟨#[47]⟩) (by rw [size47]; omega)
              have hcat2 := catFits (a := P ++ ⟨#[47]⟩) (b := x) (by rw [ByteArray.size_append, size47]; omega)
              have hk0 : (0 : Int) < (k : Int) := by omega
              go_wp2_with (first
                | (go_at_call 12; (with_reducible refine (V1.out _).mono ?_); rintro e w1 ⟨rfl, b1⟩; have B1 := Lib.hid (HB.out.trans (b1.mono HB.out.size)); have hcell1 := HC.out.later ha B1.out k x HX.out; clear b1)
                | (go_at_call 15; (with_reducible refine (P1.out _).mono ?_); rintro e w2 ⟨⟨g, cp, rfl⟩, b2⟩; have B2 := Lib.hid (B1.out.trans (b2.mono B1.out.size)); have hcell2 := HC.out.later ha B2.out k x HX.out; clear b2))
              go_roundw
              case rel =>
                refine ⟨k + 1, P ++ ⟨#[47]⟩ ++ x, rfl, by go_num, hlt, HG2.out, ?_, B2.out⟩
                rw [cat_list, cat_list, HP.out, HJN.out, if_neg (by omega)]
              case measure => simp [intOf]; omega
          · have l2 : (10 : Int) < (x.size : Int) := by omega
            go_wp2_with (first
              | (go_at_call 12; (with_reducible refine (V1.out _).mono ?_); rintro e w1 ⟨rfl, b1⟩; have B1 := Lib.hid (HB.out.trans (b1.mono HB.out.size)); have hcell1 := HC.out.later ha B1.out k x HX.out; clear b1)
              | (go_at_call 15; (with_reducible refine (P1.out _).mono ?_); rintro e w2 ⟨⟨g, cp, rfl⟩, b2⟩; have B2 := Lib.hid (B1.out.trans (b2.mono B1.out.size)); have hcell2 := HC.out.later ha B2.out k x HX.out; clear b2)
              | (go_at_call 6; (with_reducible refine (awake_any _).mono ?_); rintro e w9 ⟨rfl, b9⟩; have B9 := Lib.hid (B2.out.trans (b9.mono B2.out.size)); clear b9))
            go_ret
            exact ⟨rfl, B9.out⟩
        · have l1 : ((L : Int) != 1) = true := by simp; omega
          go_wp2_with (first
            | (go_at_call 12; (with_reducible refine (V1.out _).mono ?_); rintro e w1 ⟨rfl, b1⟩; have B1 := Lib.hid (HB.out.trans (b1.mono HB.out.size)); have hcell1 := HC.out.later ha B1.out k x HX.out; clear b1)
            | (go_at_call 15; (with_reducible refine (P1.out _).mono ?_); rintro e w2 ⟨⟨g, cp, rfl⟩, b2⟩; have B2 := Lib.hid (B1.out.trans (b2.mono B1.out.size)); have hcell2 := HC.out.later ha B2.out k x HX.out; clear b2)
            | (go_at_call 6; (with_reducible refine (awake_any _).mono ?_); rintro e w9 ⟨rfl, b9⟩; have B9 := Lib.hid (B2.out.trans (b9.mono B2.out.size)); clear b9))
          go_ret
          exact ⟨rfl, B9.out⟩
    · have hke : k = xs.length := by omega
      have hall : ∀ x ∈ xs, good x := by
        have h := HG.out
        rw [hke, List.take_length] at h
        exact h
      have hPj : P.data.toList = joinL (lists xs) := by
        have h := HP.out
        rw [hke, List.take_of_length_le (by rw [lists_len]; exact Nat.le_refl _)] at h
        exact h
      have hlen : P.size ≤ 66 := by
        have h := join_good_len hall hn6 xs.length
        rw [List.take_of_length_le (by rw [lists_len]; exact Nat.le_refl _), ← hPj, bsize] at h
        exact h
      have hne : lists xs ≠ [] := by
        intro e
        have := congrArg List.length e
        rw [lists_len, List.length_nil] at this
        omega
      have hpb : (lists xs).all partB = true := by
        rw [List.all_eq_true]
        intro y hy
        obtain ⟨x, hx, rfl⟩ := List.mem_map.1 hy
        exact (hall x hx).1
      have hvP : validB P.data.toList = true := by
        rw [hPj]
        exact joinL_valid hne hpb (by rw [← hPj, bsize]; omega)
      have hups : ∀ n, cleanL (P.data.toList ++ ups2L n) = if n < xs.length then some (joinL ((lists xs).take (xs.length - n))) else none := by
        intro n
        rw [hPj, cleanL_ups hne hpb (by rw [← hPj, bsize]; omega), lists_len]
      have s3 : (⟨#[47, 46, 46]⟩ : ByteArray).size = 3 := rfl
      have HALL := Lib.hid hall
      have HPJ := Lib.hid hPj
      have HNE := Lib.hid hne
      have HPB := Lib.hid hpb
      have HVP := Lib.hid hvP
      have HUPS := Lib.hid hups
      have hge : ¬ (k : Int) < (xs.length : Int) := by omega
      clear hall hPj hne hpb hvP hups
      go_wp2
      go_loop [7, 8] (UpsRel P m) (fun _ i => m - (intOf i).toNat)
      case atStart => exact ⟨0, P, rfl, rfl, Nat.zero_le _, by simp [ups2L]⟩
      case round =>
        obtain ⟨j, S, rfl, rfl, hj, hS⟩ := hrel
        have hSs : S.size = P.size + 3 * j := by rw [← bsize, hS, List.length_append, bsize, ups2L_len]
        have HS := Lib.hid hS
        clear hS
        by_cases hjm : j < m
        · have hcat := catFits (a := S) (b := ⟨#[47, 46, 46]⟩) (by rw [s3]; omega)
          have hjm' : (j : Int) < (m : Int) := by omega
          go_wp2
          go_round
          case rel =>
            refine ⟨j + 1, S ++ ⟨#[47, 46, 46]⟩, rfl, by go_num, hjm, ?_⟩
            rw [cat_list, HS.out, List.append_assoc]
            rfl
          case measure => simp [intOf]; omega
        · have hjm' : ¬ (j : Int) < (m : Int) := by omega
          have hje : j = m := by omega
          rw [hje] at HS hSs
          have hcl := HUPS.out m
          rw [← HS.out] at hcl
          by_cases hmn : m < xs.length
          · rw [if_pos hmn] at hcl
            obtain ⟨wt, hwt⟩ := as_text (joinL ((lists xs).take (xs.length - m)))
            rw [← hwt] at hcl
            have C1 := Lib.hid (clean_to (by omega) hcl)
            have s2 : (⟨#[47, 47]⟩ : ByteArray).size = 2 := rfl
            have s5 : (⟨#[47, 47, 46]⟩ : ByteArray).size = 3 := rfl
            have hcat1 := catFits (a := ⟨#[47, 47]⟩) (b := P) (by rw [s2]; omega)
            have hcat2 := catFits (a := ⟨#[47, 47]⟩ ++ P) (b := ⟨#[47, 47, 46]⟩) (by rw [ByteArray.size_append, s2, s5]; omega)
            have C2 := Lib.hid (clean_to (s := ⟨#[47, 47]⟩ ++ P ++ ⟨#[47, 47, 46]⟩) (a := P) (by rw [ByteArray.size_append, ByteArray.size_append, s2, s5]; omega) (by rw [cat_list, cat_list]; exact cleanL_slashes HVP.out))
            have V1 := Lib.hid (valid_to (s := P) (by omega) HVP.out)
            have D1 := Lib.hid (fun w => pDir_any P w (by omega))
            have HWT := Lib.hid hwt
            have hmn' : ¬ (xs.length : Int) ≤ (m : Int) := by omega
            obtain ⟨x0, hx0⟩ : ∃ x, xs[0]? = some x := ⟨_, List.getElem?_eq_getElem (by omega)⟩
            have HX0 := Lib.hid hx0
            have hwm : IntKind.i64.wrap ((xs.length : Int) - (m : Int)) = ((xs.length - m : Nat) : Int) := (IntWalk.i64_in _ (by omega)).trans (by omega)
            clear hcl hwt hx0
            go_wp2_with (go_at_call 7; (with_reducible refine (C1.out _).mono ?_); rintro e w1 ⟨rfl, b1⟩; have B1 := Lib.hid (HB.out.trans (b1.mono HB.out.size)); have hcell0 := HC.out.later ha B1.out 0 x0 HX0.out; rw [add0] at hcell0; clear b1)
            go_loop [11, 12] (WantRel xs (xs.length - m)) (fun _ i => xs.length - (intOf i).toNat)
            case atStart =>
              refine ⟨1, x0, rfl, rfl, Nat.le_refl _, by omega, ?_⟩
              rw [joinL_take (lists_at HX0.out), if_pos rfl]
            case round =>
              obtain ⟨i, T, rfl, rfl, hi1, hi2, hT⟩ := hrel
              have hTs : T.size ≤ 66 := by
                rw [← bsize, hT]
                exact join_good_len HALL.out hn6 i
              have HT := Lib.hid hT
              clear hT
              by_cases him : i < xs.length - m
              · obtain ⟨x, hx⟩ : ∃ x, xs[i]? = some x := ⟨_, List.getElem?_eq_getElem (by omega)⟩
                have hcell := HC.out.later ha B1.out i x hx
                have hxs : x.size ≤ 10 := (HALL.out x (List.mem_of_getElem? hx)).2
                have hjn := joinL_take (lists_at hx)
                have HJN := Lib.hid hjn
                have hcat3 := catFits (a := T) (b := ⟨#[47]⟩) (by rw [size47]; omega)
                have hcat4 := catFits (a := T ++ ⟨#[47]⟩) (b := x) (by rw [ByteArray.size_append, size47]; omega)
                have him' : (i : Int) < ((xs.length - m : Nat) : Int) := by omega
                clear hjn hx
                go_wp2
                go_round
                case rel =>
                  refine ⟨i + 1, T ++ ⟨#[47]⟩ ++ x, rfl, by go_num, by omega, him, ?_⟩
                  rw [cat_list, cat_list, HT.out, HJN.out, if_neg (by omega)]
                case measure => simp [intOf]; omega
              · have him' : ¬ (i : Int) < ((xs.length - m : Nat) : Int) := by omega
                have hie : i = xs.length - m := by omega
                have hTw : T = wt := by
                  rw [bytes_of HT.out, bytes_of HWT.out, hie]
                subst hTw
                clear hcat1 hcat2
                have hcat1 := catFits (a := ⟨#[47, 47]⟩) (b := P) (by rw [s2]; omega)
                have hcat2 := catFits (a := ⟨#[47, 47]⟩ ++ P) (b := ⟨#[47, 47, 46]⟩) (by rw [ByteArray.size_append, s2, s5]; omega)
                by_cases h1 : xs.length = 1
                · have hPx : P.data.toList = x0.data.toList := by
                    rw [HPJ.out, ← List.take_of_length_le (Nat.le_of_eq (by rw [lists_len, h1]) : (lists xs).length ≤ 0 + 1), joinL_take (lists_at HX0.out), if_pos rfl]
                  have hDz : dirL P.data.toList = [] := by
                    rw [hPx]
                    exact dirL_none (partB_free (HALL.out x0 (List.mem_of_getElem? HX0.out)).1)
                  rw [hDz] at D1
                  have e5 : ((xs.length : Int) == 1) = true := by rw [h1]; rfl
                  have hwl : IntKind.i64.wrap ((xs.length : Int) - 1) = ((0 : Nat) : Int) := by rw [h1]; rfl
                  clear hPx hDz
                  go_wp2_with (first
                    | (go_at_call 7; (with_reducible refine (C2.out _).mono ?_); rintro e w2 ⟨rfl, b2⟩; have B2 := Lib.hid (B1.out.trans (b2.mono B1.out.size)); have hcell2 := HC.out.later ha B2.out 0 x0 HX0.out; rw [add0] at hcell2; clear b2)
                    | (go_at_call 11; (with_reducible refine (V1.out _).mono ?_); rintro e w3 ⟨rfl, b3⟩; have B3 := Lib.hid (B2.out.trans (b3.mono B2.out.size)); clear b3)
                    | (go_at_call 13; (with_reducible refine (D1.out _).mono ?_); rintro e w4 ⟨rfl, b4⟩; have B4 := Lib.hid (B3.out.trans (b4.mono B3.out.size)); clear b4)
                    | (go_at_call 6; (with_reducible refine (awake_any _).mono ?_); rintro e w9 ⟨rfl, b9⟩; have B9 := Lib.hid (B4.out.trans (b9.mono B4.out.size)); clear b9))
                  go_ret
                  exact ⟨rfl, B9.out⟩
                · obtain ⟨xl, hxl⟩ : ∃ x, xs[xs.length - 1]? = some x := ⟨_, List.getElem?_eq_getElem (by omega)⟩
                  obtain ⟨DP, hDP⟩ := as_text (joinL ((lists xs).take (xs.length - 1)))
                  have hcl := HC.out.later ha B1.out (xs.length - 1) xl hxl
                  have hxls := (HALL.out xl (List.mem_of_getElem? hxl)).2
                  have hPd : P.data.toList = DP.data.toList ++ 47 :: xl.data.toList := by
                    have e := joinL_take (lists_at hxl)
                    rw [if_neg (by omega), show xs.length - 1 + 1 = xs.length from by omega, List.take_of_length_le (by rw [lists_len]; exact Nat.le_refl _), ← HPJ.out, ← hDP] at e
                    rw [e]
                    simp
                  have hDd : dirL P.data.toList = DP.data.toList := by
                    rw [hPd]
                    exact dirL_behind (partB_free (HALL.out xl (List.mem_of_getElem? hxl)).1)
                  rw [hDd] at D1
                  simp only [toArr] at D1
                  have hPq : P = DP ++ ⟨#[47]⟩ ++ xl := by
                    rw [bytes_of hPd, ← toArr (DP ++ ⟨#[47]⟩ ++ xl), cat_list, cat_list]
                    simp
                  have hDs : DP.size ≤ 66 := by
                    rw [← bsize, hDP]
                    exact join_good_len HALL.out hn6 _
                  have hcat3 := catFits (a := DP) (b := ⟨#[47]⟩) (by rw [size47]; omega)
                  have hcat4 := catFits (a := DP ++ ⟨#[47]⟩) (b := xl) (by rw [ByteArray.size_append, size47]; omega)
                  have e5 : ((xs.length : Int) == 1) = false := by rw [beq_eq_false_iff_ne]; omega
                  have e6 : (1 : Int) < (xs.length : Int) := by omega
                  have hwl : IntKind.i64.wrap ((xs.length : Int) - 1) = ((xs.length - 1 : Nat) : Int) := (IntWalk.i64_in _ (by omega)).trans (by omega)
                  have hcmp2 : ((DP ++ ⟨#[47]⟩ ++ xl).toList == P.toList) = true := by rw [hPq]; exact beq_self_eq_true _
                  have HXL := Lib.hid hxl
                  clear hPd hDd hPq hDP hxl
                  go_wp2_with (first
                    | (go_at_call 7; (with_reducible refine (C2.out _).mono ?_); rintro e w2 ⟨rfl, b2⟩; have B2 := Lib.hid (B1.out.trans (b2.mono B1.out.size)); have hcell2 := HC.out.later ha B2.out (xs.length - 1) xl HXL.out; clear b2)
                    | (go_at_call 11; (with_reducible refine (V1.out _).mono ?_); rintro e w3 ⟨rfl, b3⟩; have B3 := Lib.hid (B2.out.trans (b3.mono B2.out.size)); clear b3)
                    | (go_at_call 13; (with_reducible refine (D1.out _).mono ?_); rintro e w4 ⟨rfl, b4⟩; have B4 := Lib.hid (B3.out.trans (b4.mono B3.out.size)); clear b4)
                    | (go_at_call 6; (with_reducible refine (awake_any _).mono ?_); rintro e w9 ⟨rfl, b9⟩; have B9 := Lib.hid (B4.out.trans (b9.mono B4.out.size)); clear b9))
                  go_ret
                  exact ⟨rfl, B9.out⟩
          · rw [if_neg hmn] at hcl
            have C1 := Lib.hid (clean_not (by omega) hcl)
            have hmn' : (xs.length : Int) ≤ (m : Int) := by omega
            clear hcl
            go_wp2_with (first
              | (go_at_call 7; (with_reducible refine (C1.out _).mono ?_); rintro e w1 ⟨rfl, b1⟩; have B1 := Lib.hid (HB.out.trans (b1.mono HB.out.size)); clear b1)
              | (go_at_call 6; (with_reducible refine (awake_any _).mono ?_); rintro e w9 ⟨rfl, b9⟩; have B9 := Lib.hid (B1.out.trans (b9.mono B1.out.size)); clear b9))
            go_ret
            exact ⟨rfl, B9.out⟩

set_option maxHeartbeats 1600000 in
set_option maxRecDepth 100000 in
/-- Nothing to join, too much, or no such number of steps up. -/
theorem parts_edge (ao : Option Addr) (n cap : Nat) (u : Int) (w : World) (h : n = 0 ∨ 6 < n ∨ u < 0 ∨ 8 < u) :
    Calls Tryd.prog 5 #[.slice ao n cap, .int .i64 u] w fun e w' => e = .returned (.bool true) ∧ Below w.heap.size w w' := by
  have go : ∀ (w : World), Calls Tryd.prog 6 #[] w fun e w' => e = .returned (.bool true) ∧ Below w.heap.size w w' := awake_any
  by_cases h0 : n = 0
  · subst h0
    go_enter Tryd.func5, Tryd.ntmps5
    go_wp2_with (go_at_call 6; (with_reducible refine (go _).mono ?_); rintro e w9 ⟨rfl, b9⟩)
    go_ret
    exact ⟨rfl, b9⟩
  · have e1 : ((n : Int) == 0) = false := by rw [beq_eq_false_iff_ne]; omega
    by_cases h6 : 6 < n
    · have e2 : (6 : Int) < (n : Int) := by omega
      go_enter Tryd.func5, Tryd.ntmps5
      go_wp2_with (go_at_call 6; (with_reducible refine (go _).mono ?_); rintro e w9 ⟨rfl, b9⟩)
      go_ret
      exact ⟨rfl, b9⟩
    · have e2 : ¬ (6 : Int) < (n : Int) := by omega
      by_cases hu : u < 0
      · go_enter Tryd.func5, Tryd.ntmps5
        go_wp2_with (go_at_call 6; (with_reducible refine (go _).mono ?_); rintro e w9 ⟨rfl, b9⟩)
        go_ret
        exact ⟨rfl, b9⟩
      · have h8 : 8 < u := by omega
        go_enter Tryd.func5, Tryd.ntmps5
        go_wp2_with (go_at_call 6; (with_reducible refine (go _).mono ?_); rintro e w9 ⟨rfl, b9⟩)
        go_ret
        exact ⟨rfl, b9⟩

end Go.Proofs.YtikkfkchbdejkaaDoor
