/-
  Texts of the proof, put together: SuRq, AgL, OwnApp.
-/
import Derived.Test.YtobplffailbkbaaG14
import Derived.Test.YtobplffailbkbaaG13
import Derived.Test.YtobplffailbkbaaG21
import Derived.Test.YtobplffailbkbaaG18
import Derived.Test.YtobplffailbkbaaG12

/-
  The parameters of a definition: the document's params, walked where they may be.
-/
namespace Go.Proofs.Ytobplffailbkbaa
open Go.RowKit Go.Maps

def ParamsPost (W : World) (T : List Xt) (PS : List ByteArray) (R : List Xt) (e : Ending) (w' : World) : Prop := ∃ pa pn pc k, e = .returned (.tuple #[.slice pa pn pc, .bool false, .int .i64 ((k : Nat) : Int), .bool true]) ∧ Up W 9 1 (.slice pa pn pc) pn (PS.map Value.string) w' ∧ R = T.drop k ∧ k ≤ T.length
def PrRel (W : World) (T : List Xt) (PS : List ByteArray) (R : List Xt) (v6 v7 : Value) (wr : World) : Prop := ∃ (i : Nat) (out : List ByteArray) (pa : Option Addr) (pn pc : Nat), v7 = .int .i64 (i : Int) ∧ v6 = .slice pa pn pc ∧ i ≤ T.length ∧ pn ≤ i ∧ Up W 9 1 (.slice pa pn pc) pn (out.map Value.string) wr ∧ rowL out (T.drop i) = some (false, PS, R)
/-- One turn, over lists. -/
theorem row_turn {T : List Xt} {out PS : List ByteArray} {R : List Xt} {i : Nat} (h : rowL out (T.drop i) = some (false, PS, R)) : ∃ t u, T[i]? = some t ∧ T[i + 1]? = some u ∧ isX t eB = false ∧ t.k = 1 ∧ decide (t.x = vaB) = false ∧ (∀ (k : Nat) (s : ByteArray), out[k]? = some s → s ≠ t.x) ∧
    ((isX u cB = true ∧ PS = out ++ [t.x] ∧ R = T.drop (i + 2)) ∨ (isX u cB = false ∧ isX u kB = true ∧ rowL (out ++ [t.x]) (T.drop (i + 2)) = some (false, PS, R))) := by
  match hd : T.drop i with
  | [] =>
    rw [hd] at h
    cases h
  | [_] =>
    rw [hd] at h
    cases h
  | t :: u :: r =>
    rw [hd] at h
    have h0 : T[i]? = some t := by
      have := congrArg (fun l => l[0]?) hd
      simpa [List.getElem?_drop] using this
    have h1 : T[i + 1]? = some u := by
      have := congrArg (fun l => l[1]?) hd
      simpa [List.getElem?_drop] using this
    have h2 : T.drop (i + 2) = r := by
      have := congrArg (fun l => l.drop 2) hd
      simpa [List.drop_drop] using this
    rw [show rowL out (t :: u :: r) = (if isX t eB then (if isX u cB then some (true, out ++ [vaB], r) else none)
      else if parB out t then (if isX u cB then some (false, out ++ [t.x], r) else if isX u kB then rowL (out ++ [t.x]) r else none)
      else none) from rfl] at h
    cases he : isX t eB with
    | true =>
      rw [he] at h
      simp only [if_true] at h
      split at h
      · simp at h
      · cases h
    | false =>
      rw [he] at h
      simp only [Bool.false_eq_true, if_false] at h
      cases hp : parB out t with
      | false =>
        rw [hp] at h
        simp at h
      | true =>
        rw [hp] at h
        simp only [if_true] at h
        unfold parB at hp
        simp only [Bool.and_eq_true, Bool.not_eq_true', decide_eq_true_eq] at hp
        obtain ⟨⟨hk, hv⟩, hm⟩ := hp
        refine ⟨t, u, h0, h1, he, hk, hv, fun k s hs e => memB_not hm (by rw [← e]; exact List.mem_of_getElem? hs), ?_⟩
        rw [h2]
        cases hc : isX u cB with
        | true =>
          rw [hc] at h
          simp only [if_true, Option.some.injEq, Prod.mk.injEq, true_and] at h
          exact .inl ⟨rfl, h.1.symm, h.2.symm⟩
        | false =>
          rw [hc] at h
          simp only [Bool.false_eq_true, if_false] at h
          cases hkk : isX u kB with
          | false =>
            rw [hkk] at h
            simp at h
          | true =>
            rw [hkk] at h
            simp only [if_true] at h
            exact .inr ⟨rfl, rfl, h⟩

set_option maxRecDepth 100000 in
set_option maxHeartbeats 6400000 in
theorem rparams_any {T : List Xt} {a : Option Addr} {n cap : Nat} {w : World} (h : ToksX T (.slice a n cap) w) {PS : List ByteArray} {R : List Xt} (hr : rowL [] T = some (false, PS, R)) (hc : ∀ t, T[0]? = some t → isX t cB = false) (hT : T.length ≤ 100000) : Calls Try.prog 28 #[.slice a n cap] w (ParamsPost w T PS R) := by
  obtain ⟨hn, hc1, hc2⟩ := h.len
  unfold maxLen at hc2
  obtain ⟨i0, hi, hz0, hz1, hz2⟩ := info_parts Try.infoStrM
  obtain ⟨t0, u0, ht0, -, -⟩ := row_turn (i := 0) (by rw [List.drop_zero]; exact hr)
  obtain ⟨g, o, sa, sn, sc, rfl, hg, -, ⟨e0, e1, e2, e3, e4, e5, e6, e7⟩, -⟩ := h.get ht0
  have hz := hc t0 ht0
  have HIZ : Hid (∀ X : World, Calls Try.prog 27 #[.agg #[.int .i64 t0.k, .string t0.x, .bool t0.sp, .string t0.g, .int .i64 t0.f, .int .i64 t0.t, .bool t0.d, .slice sa sn sc], .string ⟨#[41]⟩] X (BoolNew false X)) := Lib.hid (fun X => hz ▸ isX_any t0 ⟨#[41]⟩ sa sn sc X)
  have hn1 : 1 ≤ n := by
    have := (List.getElem?_eq_some_iff.1 ht0).1
    omega
  have hnI : (0 : Int) < (n : Int) := by omega
  simp only [Nat.zero_mul, Nat.add_zero] at e0 e1 e2 e3 e4 e5 e6 e7
  have HX := Lib.hid h
  have HN := Lib.hid hn
  have hn5 : n ≤ 100000 := by omega
  have HST : Hid (∀ X : World, Below w.heap.size w X → PrRel w T PS R (.slice none 0 0) (.int .i64 0) X) := Lib.hid (fun X hX => ⟨0, [], none, 0, 0, rfl, rfl, Nat.zero_le _, Nat.le_refl _, (up_nil w _ 1).over hX, by rw [List.drop_zero]; exact hr⟩)
  clear h hr hc hT ht0 hz hn
  go_enter Try.func28, Try.ntmps28
  go_wp2_with (go_at_call 27; (with_reducible refine (HIZ.out _).mono ?_); rintro e w1 ⟨rfl, hb1⟩; have HS1 := Lib.hid (HST.out w1 hb1); clear hb1)
  clear e0 e1 e2 e3 e4 e5 e6 e7 HST HIZ
  go_loopw [6, 7] (fun v6 v7 wr => PrRel w T PS R v6 v7 wr) (fun _ i _ => n - (intOf i).toNat)
  case atStart => exact HS1.out
  case round =>
    obtain ⟨i, out, pa, pn, pc, rfl, rfl, hil, hpi, hU, hrow⟩ := hrel
    obtain ⟨t, u, ht, hu, hte, htk, htv, hno, hway⟩ := row_turn hrow
    obtain ⟨g', o', ta, tn, tc, hga, hg, -, hct, -⟩ := HX.out.get ht
    simp only [Option.some.injEq, Addr.mk.injEq, and_true] at hga
    obtain ⟨rfl, rfl⟩ := hga
    obtain ⟨g', o', ua, un, uc, hga, -, -, hcu, -⟩ := HX.out.get hu
    simp only [Option.some.injEq, Addr.mk.injEq, and_true] at hga
    obtain ⟨rfl, rfl⟩ := hga
    have hi1 : i + 1 < n := by
      have := (List.getElem?_eq_some_iff.1 hu).1
      have := HN.out
      omega
    have hiI : (i : Int) + 1 < (n : Int) := by omega
    have hi2 : (i : Int) < (n : Int) := by omega
    have hi0 : (0 : Int) ≤ (i : Int) := by omega
    have hi3 : (0 : Int) ≤ (i : Int) + 1 := by omega
    obtain ⟨c0, c1, c2, c3, c4, c5, c6, c7⟩ := hct.next hU.2 hg
    have HCT := Lib.hid (hct.next hU.2 hg)
    have HCU := Lib.hid hcu
    have HGW := Lib.hid hg
    have hol : pn = out.length := by
      have := hU.1.1
      rw [List.length_map] at this
      omega
    have HOL := Lib.hid hol
    have HG := Lib.hid (Nat.lt_of_lt_of_le hg hU.2.size)
    have htk' : (t.k != 1) = false := by simp [htk]
    have hva := va_is t.x
    rw [htv] at hva
    have HI1 : Hid (∀ X : World, Calls Try.prog 27 #[.agg #[.int .i64 t.k, .string t.x, .bool t.sp, .string t.g, .int .i64 t.f, .int .i64 t.t, .bool t.d, .slice ta tn tc], .string ⟨#[46, 46, 46]⟩] X (BoolNew false X)) := Lib.hid (fun X => hte ▸ isX_any t ⟨#[46, 46, 46]⟩ ta tn tc X)
    have HU := Lib.hid hU
    have HNO := Lib.hid hno
    have HW := Lib.hid hway
    have HX1 : Hid (∀ (s : ByteArray) (X : World), Calls Try.prog 27 #[.agg #[.int .i64 u.k, .string u.x, .bool u.sp, .string u.g, .int .i64 u.f, .int .i64 u.t, .bool u.d, .slice ua un uc], .string s] X (BoolNew (isX u s) X)) := Lib.hid (fun s X => isX_any u s ua un uc X)
    clear hU hno hway hrow ht hu hte htv hct hcu hil htk hol
    go_wp2_with (go_at_call 27; (with_reducible refine (HI1.out _).mono ?_); rintro e w2 ⟨rfl, hb2⟩; (obtain ⟨d0, d1, -⟩ := HCT.out.next hb2 HG.out); have HB2 := Lib.hid hb2; clear hb2 c0 c1 c2 c3 c4 c5 c6 c7)
    have hol := HOL.out
    have ho2 := (HU.out.over HB2.out).1
    rw [hol] at ho2
    have hou := strsV_row ho2
    rw [← hol] at hou
    have HOU := Lib.hid hou
    clear ho2 hou hol
    obtain ⟨w5, hw5⟩ : ∃ w5, w2 = w5 := ⟨_, rfl⟩
    subst hw5
    go_loopw [8] (fun v wX => ∃ (k q : Nat), v = .int .i64 (k : Int) ∧ k ≤ pn ∧ wX = w2.drewN q) (fun v _ => pn - (intOf v).toNat)
    case atStart => exact ⟨0, 0, rfl, Nat.zero_le _, rfl⟩
    case round =>
      obtain ⟨k, q, rfl, hk, rfl⟩ := hrel
      by_cases hlt : k < pn
      · obtain ⟨s, hs⟩ : ∃ s, out[k]? = some s := ⟨_, List.getElem?_eq_getElem (by rw [← HOL.out]; exact hlt)⟩
        obtain ⟨gp, op, rfl, hgp, hcp⟩ := HOU.out.get hs
        have hse : (s.toList == t.x.toList) = false := by
          rw [str_is]
          simp [HNO.out k s hs]
        have hkI : (k : Int) < (pn : Int) := by omega
        have hk0 : (0 : Int) ≤ (k : Int) := by omega
        have hpc := HOU.out.len.2
        unfold maxLen at hpc
        obtain ⟨hp1, hp2⟩ := hpc
        clear hs
        go_wp2
        go_quiet (fail)
        go_wp2
        go_roundw
        case rel => exact ⟨k + 1, _, by go_num, hlt, rfl⟩
        case measure => simp [intOf]; omega
      · have hkI : ¬ (k : Int) < (pn : Int) := by omega
        have HU2 := Lib.hid (HU.out.over (below_up HB2.out (Below.of_drews w2 q)))
        have hpn5 : pn ≤ 100000 := by omega
        have HNEW : Hid (∀ (a8 : Option Addr) (c8 : Nat) (w8 : World), Up w 9 1 (.slice a8 (pn + 1) c8) (pn + 1) (out.map Value.string ++ [.string t.x]) w8 → Up w 9 1 (.slice a8 (pn + 1) c8) (pn + 1) ((out ++ [t.x]).map Value.string) w8 ∧ StrsV (out ++ [t.x]) (.slice a8 (pn + 1) c8) w8) := Lib.hid (fun a8 c8 w8 h8 => by
          have h9 : Up w 9 1 (.slice a8 (pn + 1) c8) (pn + 1) ((out ++ [t.x]).map Value.string) w8 := by
            rw [List.map_append]
            exact h8
          refine ⟨h9, ?_⟩
          have h10 := h9.1
          rw [show pn + 1 = (out ++ [t.x]).length from by rw [List.length_append, ← HOL.out]; rfl] at h10
          have h11 := strsV_row h10
          rw [show (out ++ [t.x]).length = pn + 1 from by rw [List.length_append, ← HOL.out]; rfl] at h11
          exact h11)
        have hi8 : i + 1 + 1 ≤ n := hi1
        rcases HW.out with ⟨huc, hPS, hR⟩ | ⟨huc, huk, hnext⟩
        · have HI2 : Hid (∀ X : World, Calls Try.prog 27 #[.agg #[.int .i64 u.k, .string u.x, .bool u.sp, .string u.g, .int .i64 u.f, .int .i64 u.t, .bool u.d, .slice ua un uc], .string ⟨#[41]⟩] X (BoolNew true X)) := Lib.hid (fun X => huc ▸ HX1.out ⟨#[41]⟩ X)
          have HPS := Lib.hid hPS
          have HR := Lib.hid hR
          clear huc hPS hR
          go_wp2_with (first
            | (at_builtin; refine wpList_append_ex rfl (.tmp 73) (.tmp 79) 33 rfl _ (app_up Try.underlying33 hi hz0 hz1 hz2 rfl (by decide) (by decide) (HU2.out.alloc _) (src_one _ _ _) (by simp [Value.oneCell']) (by omega)) ?_; intro v8 w8 hu8; obtain ⟨a8, c8, rfl, -, -, -⟩ := row_form hu8.1; (obtain ⟨x0, x1, x2, x3, x4, x5, x6, x7⟩ := HCU.out.next hu8.2 HGW.out); have HU8 := Lib.hid (HNEW.out a8 c8 w8 hu8); clear hu8)
            | (go_at_call 27; (with_reducible refine (HI2.out _).mono ?_); rintro e w9 ⟨rfl, hb9⟩; have HF : Hid (ParamsPost w T PS R (.returned (.tuple #[.slice a8 (pn + 1) c8, .bool false, .int .i64 ((i : Int) + 2), .bool true])) w9) := Lib.hid ⟨a8, pn + 1, c8, i + 2, by rw [show (((i + 2 : Nat) : Int)) = (i : Int) + 2 from by omega], by rw [HPS.out]; exact HU8.out.1.over hb9, HR.out, by have := HN.out; omega⟩; clear hb9))
          exact bodyPost_ret (v := .tuple #[.slice a8 (pn + 1) c8, .bool false, .int .i64 ((i : Int) + 2), .bool true]) (by simp [results, Try.results28, go_sem]) rfl HF.out
        · have HI2 : Hid (∀ X : World, Calls Try.prog 27 #[.agg #[.int .i64 u.k, .string u.x, .bool u.sp, .string u.g, .int .i64 u.f, .int .i64 u.t, .bool u.d, .slice ua un uc], .string ⟨#[41]⟩] X (BoolNew false X)) := Lib.hid (fun X => huc ▸ HX1.out ⟨#[41]⟩ X)
          have HI3 : Hid (∀ X : World, Calls Try.prog 27 #[.agg #[.int .i64 u.k, .string u.x, .bool u.sp, .string u.g, .int .i64 u.f, .int .i64 u.t, .bool u.d, .slice ua un uc], .string ⟨#[44]⟩] X (BoolNew true X)) := Lib.hid (fun X => huk ▸ HX1.out ⟨#[44]⟩ X)
          have HNX := Lib.hid hnext
          clear huc huk hnext
          go_wp2_with (first
            | (at_builtin; refine wpList_append_ex rfl (.tmp 73) (.tmp 79) 33 rfl _ (app_up Try.underlying33 hi hz0 hz1 hz2 rfl (by decide) (by decide) (HU2.out.alloc _) (src_one _ _ _) (by simp [Value.oneCell']) (by omega)) ?_; intro v8 w8 hu8; obtain ⟨a8, c8, rfl, -, -, -⟩ := row_form hu8.1; (obtain ⟨x0, x1, x2, x3, x4, x5, x6, x7⟩ := HCU.out.next hu8.2 HGW.out); have HU8 := Lib.hid (HNEW.out a8 c8 w8 hu8); clear hu8)
            | (go_at_call 27; (with_reducible refine (HI2.out _).mono ?_); rintro e w9 ⟨rfl, hb9⟩; (obtain ⟨y0, y1, y2, y3, y4, y5, y6, y7⟩ := HCU.out.next (below_up HU8.out.1.2 hb9) HGW.out); have HU9 := Lib.hid (HU8.out.1.over hb9); clear hb9 x0 x1 x2 x3 x4 x5 x6 x7)
            | (go_at_call 27; (with_reducible refine (HI3.out _).mono ?_); rintro e w10 ⟨rfl, hb10⟩; have HU10 := Lib.hid (HU9.out.over hb10); clear hb10))
          go_roundw
          case rel => exact ⟨i + 2, out ++ [t.x], a8, pn + 1, c8, by go_num, rfl, by have := HN.out; omega, by omega, HU10.out, HNX.out⟩
          case measure => simp [intOf]; omega

end Go.Proofs.Ytobplffailbkbaa

/-
  Arguments, over lists.
-/
namespace Go.Proofs.Ytobplffailbkbaa
open Go.RowKit

/-- What is collected, from a place on: how deep it is, this argument so far, those ahead, the commas, how many tokens. -/
def colL : Nat → List Xt → List Xt → List (List Xt) → List Xt → Nat → Option (List (List Xt) × List Xt × Nat)
  | _, [], _, _, _, _ => none
  | d, t :: r, now, ls, cs, n =>
    if decide (d = 0) && isX t cB then some (ls ++ [now], cs, n + 1)
    else if decide (d = 0) && isX t kB then colL 0 r [] (ls ++ [now]) (cs ++ [t]) (n + 1)
    else colL (if isX t oB then d + 1 else if isX t cB then d - 1 else d) r (now ++ [t]) ls cs (n + 1)
def collectL : List Xt → Option (List (List Xt) × List Xt × Nat)
  | [] => none
  | t :: r => if isX t oB then colL 0 r [] [] [] 1 else none

/-- Arguments with their commas, as they stand. -/
def weaveL : List (List Xt) → List Xt → List Xt
  | [], _ => []
  | a :: ls, [] => a ++ weaveL ls []
  | a :: ls, c :: cs => a ++ c :: weaveL ls cs
theorem weave_snoc : ∀ (ls : List (List Xt)) (cs : List Xt) (a : List Xt), ls.length = cs.length → weaveL (ls ++ [a]) cs = weaveL ls cs ++ a
  | [], [], a, _ => by simp [weaveL]
  | [], _ :: _, _, h => by cases h
  | _ :: _, [], _, h => by cases h
  | b :: ls, c :: cs, a, h => by
    show b ++ c :: weaveL (ls ++ [a]) cs = (b ++ c :: weaveL ls cs) ++ a
    rw [weave_snoc ls cs a (by simpa using h)]
    simp
theorem weave_more : ∀ (ls : List (List Xt)) (cs : List Xt) (a : List Xt) (c : Xt), ls.length = cs.length → weaveL (ls ++ [a]) (cs ++ [c]) = weaveL ls cs ++ a ++ [c]
  | [], [], a, c, _ => by simp [weaveL]
  | [], _ :: _, _, _, h => by cases h
  | _ :: _, [], _, _, h => by cases h
  | b :: ls, d :: cs, a, c, h => by
    show b ++ d :: weaveL (ls ++ [a]) (cs ++ [c]) = (b ++ d :: weaveL ls cs) ++ a ++ [c]
    rw [weave_more ls cs a c (by simpa using h)]
    simp

/-- What is collected stands there. -/
theorem colL_is : ∀ (d : Nat) (T now : List Xt) (ls : List (List Xt)) (cs : List Xt) (n : Nat) (A : List (List Xt)) (C : List Xt) (k : Nat), ls.length = cs.length → colL d T now ls cs n = some (A, C, k) →
    A.length = C.length + 1 ∧ ∃ m c r, T = m ++ c :: r ∧ isX c cB = true ∧ weaveL A C = weaveL ls cs ++ now ++ m ∧ k = n + m.length + 1
  | _, [], _, _, _, _, _, _, _, _, h => by cases h
  | d, t :: r, now, ls, cs, n, A, C, k, hl, h => by
    unfold colL at h
    split at h
    · rename_i h1
      simp only [Option.some.injEq, Prod.mk.injEq] at h
      obtain ⟨rfl, rfl, rfl⟩ := h
      rw [Bool.and_eq_true] at h1
      refine ⟨by simp [hl], [], t, r, rfl, h1.2, ?_, rfl⟩
      rw [weave_snoc ls cs now hl]
      simp
    · split at h
      · obtain ⟨g1, m, c, q, g2, g3, g4, g5⟩ := colL_is 0 r [] (ls ++ [now]) (cs ++ [t]) (n + 1) A C k (by simp [hl]) h
        refine ⟨g1, t :: m, c, q, by rw [g2]; rfl, g3, ?_, by rw [g5]; simp; omega⟩
        rw [g4, weave_more ls cs now t hl]
        simp
      · obtain ⟨g1, m, c, q, g2, g3, g4, g5⟩ := colL_is _ r (now ++ [t]) ls cs (n + 1) A C k hl h
        refine ⟨g1, t :: m, c, q, by rw [g2]; rfl, g3, ?_, by rw [g5]; simp; omega⟩
        rw [g4]
        simp
theorem collectL_is {T : List Xt} {A : List (List Xt)} {C : List Xt} {k : Nat} (h : collectL T = some (A, C, k)) : A.length = C.length + 1 ∧ 2 ≤ k ∧ ∃ o c r, T = o :: (weaveL A C ++ c :: r) ∧ k = (weaveL A C).length + 2 := by
  match T, h with
  | [], h => cases h
  | t :: r, h =>
    have h : (if isX t oB then colL 0 r [] [] [] 1 else none) = some (A, C, k) := h
    split at h
    · obtain ⟨g1, m, c, q, g2, g3, g4, g5⟩ := colL_is 0 r [] [] [] 1 A C k rfl h
      have hw : weaveL A C = m := by rw [g4]; simp [weaveL]
      refine ⟨g1, by omega, t, c, q, by rw [hw, g2], by rw [hw, g5]; omega⟩
    · cases h

/-- The arguments as a macro of n parameters takes them. -/
def fitL (n : Nat) (va : Bool) (A : List (List Xt)) (C : List Xt) : Option (List (List Xt)) :=
  if n = 0 then (match A with | [[]] => some [] | _ => none)
  else if va then (if A.length < n - 1 then none else some (A.take (n - 1) ++ [weaveL (A.drop (n - 1)) (C.drop (n - 1))]))
  else if A.length = n then some A else none

/-- A text in quotes. -/
def quoL : List UInt8 → List UInt8
  | [] => []
  | c :: r => if c = 34 ∨ c = 92 then 92 :: c :: quoL r else c :: quoL r
def quotedL (l : List UInt8) : List UInt8 := 34 :: (quoL l ++ [34])
def strL1 (t : Xt) : List UInt8 := if t.k = 4 ∨ t.k = 3 then quoL t.x.data.toList else t.x.data.toList
def strL2 : List Xt → List UInt8
  | [] => []
  | t :: r => (if t.sp then 32 :: strL1 t else strL1 t) ++ strL2 r
def stringL : List Xt → List UInt8
  | [] => [34, 34]
  | t :: r => 34 :: (strL1 t ++ strL2 r ++ [34])

/-- What stands between quotes, read. -/
def unqL : List UInt8 → Option (List UInt8)
  | [] => some []
  | [c] => if c = 34 ∨ c = 10 ∨ c = 92 then none else some [c]
  | c :: d :: r =>
    if c = 34 ∨ c = 10 then none
    else if c ≠ 92 then (unqL (d :: r)).map (c :: ·)
    else if d = 34 ∨ d = 92 then (unqL r).map (d :: ·)
    else if d = 10 then none else (unqL r).map fun q => 92 :: d :: q
theorem unqL_one {c : UInt8} (h : c ≠ 34 ∧ c ≠ 10 ∧ c ≠ 92) (r : List UInt8) : unqL (c :: r) = (unqL r).map (c :: ·) := by
  cases r with
  | nil =>
    show (if c = 34 ∨ c = 10 ∨ c = 92 then none else some [c]) = _
    rw [if_neg (fun e => e.elim h.1 fun e => e.elim h.2.1 h.2.2)]
    rfl
  | cons d r =>
    show (if c = 34 ∨ c = 10 then none else if c ≠ 92 then _ else _) = _
    rw [if_neg (fun e => e.elim h.1 h.2.1), if_pos h.2.2]
theorem unq_quo : ∀ l : List UInt8, (∀ c ∈ l, c ≠ 10) → unqL (quoL l) = some l
  | [], _ => rfl
  | c :: r, h => by
    have ih := unq_quo r fun d hd => h d (List.mem_cons_of_mem _ hd)
    show unqL (if c = 34 ∨ c = 92 then 92 :: c :: quoL r else c :: quoL r) = _
    by_cases hc : c = 34 ∨ c = 92
    · rw [if_pos hc]
      show (if (92 : UInt8) = 34 ∨ (92 : UInt8) = 10 then none else if (92 : UInt8) ≠ 92 then _ else if c = 34 ∨ c = 92 then (unqL (quoL r)).map (c :: ·) else _) = _
      rw [if_neg (by decide), if_neg (by decide), if_pos hc, ih]
      rfl
    · rw [if_neg hc, unqL_one ⟨fun e => hc (.inl e), h c List.mem_cons_self, fun e => hc (.inr e)⟩, ih]
      rfl
theorem quo_qN : ∀ (l r : List UInt8), (∀ c ∈ l, c ≠ 10) → qN 34 false (quoL l ++ 34 :: r) = some ((quoL l).length + 1)
  | [], r, _ => rfl
  | c :: l, r, h => by
    have ih := quo_qN l r fun d hd => h d (List.mem_cons_of_mem _ hd)
    have h10 := h c List.mem_cons_self
    show qN 34 false ((if c = 34 ∨ c = 92 then 92 :: c :: quoL l else c :: quoL l) ++ 34 :: r) = some ((if c = 34 ∨ c = 92 then 92 :: c :: quoL l else c :: quoL l).length + 1)
    by_cases hc : c = 34 ∨ c = 92
    · rw [if_pos hc]
      show (if (92 : UInt8) = 10 then none else if false = true then _ else if (92 : UInt8) = 92 then ((if c = 10 then none else if true = true then (qN 34 false (quoL l ++ 34 :: r)).map (· + 1) else _).map (· + 1)) else _) = _
      rw [if_neg (by decide), if_neg (by simp), if_pos rfl, if_neg h10, if_pos rfl, ih]
      rfl
    · rw [if_neg hc]
      show (if c = 10 then none else if false = true then _ else if c = 92 then _ else if c = 34 then some 1 else (qN 34 false (quoL l ++ 34 :: r)).map (· + 1)) = _
      rw [if_neg h10, if_neg (by simp), if_neg (fun e => hc (.inr e)), if_neg (fun e => hc (.inl e)), ih]
      rfl
/-- A text in quotes is one token. -/
theorem quoted_tok (l : List UInt8) (h : ∀ c ∈ l, c ≠ 10) : tok (quotedL l) = (4, (quotedL l).length) := by
  have hl : lettN (quotedL l) = 0 := lettN_zero (fun e => by have := e.1; revert this; show ¬ ((34 : UInt8) = 117); decide) (fun e => by
    have := e.1
    revert this
    show ¬ ((34 : UInt8) = 76 ∨ (34 : UInt8) = 117 ∨ (34 : UInt8) = 85)
    decide)
  have hc : conN (quotedL l) = some (4, (quotedL l).length) := by
    unfold conN
    rw [hl]
    show (if (34 : UInt8) = 34 then (qN 34 false (quoL l ++ [34])).map fun n => (4, 0 + 1 + n) else _) = _
    rw [if_pos rfl, quo_qN l [] h]
    simp [quotedL]
    omega
  unfold tok
  rw [hc]
theorem quoL_no10 : ∀ (l : List UInt8), (∀ c ∈ l, c ≠ 10) → ∀ c ∈ quoL l, c ≠ 10
  | [], _, c, h => by cases h
  | a :: l, h, c, hc => by
    have ih := quoL_no10 l fun d hd => h d (List.mem_cons_of_mem _ hd)
    have hc : c ∈ (if a = 34 ∨ a = 92 then 92 :: a :: quoL l else a :: quoL l) := hc
    split at hc
    · rcases List.mem_cons.1 hc with rfl | hc
      · decide
      · rcases List.mem_cons.1 hc with rfl | hc
        · exact h _ List.mem_cons_self
        · exact ih c hc
    · rcases List.mem_cons.1 hc with rfl | hc
      · exact h _ List.mem_cons_self
      · exact ih c hc

end Go.Proofs.Ytobplffailbkbaa

/-
  An append to a row of its own, and where the row lies then.
-/
namespace Go.Proofs.Ytobplffailbkbaa
open Go.RowKit

/-- An append to a row of its own, and where it lies then. -/
theorem own_app {t ty e : TypeId} {i0 : TypeInfo} {z : Value} {size bytes : Nat} {B n m : Nat} {v sv : Value} {xs news : List Value} {w : World}
    (ht : Try.prog.underlying t = some (.slice e)) (hi : Try.prog.info? e = some i0) (hz : i0.zero = some z) (hsz : i0.size = size) (hby : i0.bytes = bytes) (hzs : z.cells.size = size) (hpos : 0 < size) (hbb : bytes ≤ 100)
    (hd : w.ownsRow B e size v n xs) (hs : Src w sv m size news) (h1 : ∀ u ∈ news, u.oneCell' = true) (hm : 0 < n + m) (hn : n + m ≤ 1000000) (hB : B ≤ w.heap.size) :
    ∃ b cap w', (Builtin.append_ #[t, t] ty #[v, sv]).run Try.prog w = .ok (.slice (some ⟨b, 0, none⟩) (n + m) cap) w' ∧ w'.ownsRow B e size (.slice (some ⟨b, 0, none⟩) (n + m) cap) (n + m) (xs ++ news) ∧ w.grownBy w' v.ownBlock ∧ (v.ownBlock = some b ∨ w.heap.size ≤ b) := by
  obtain ⟨v', w', hr, h2, h3⟩ := run_app (ty := ty) ht hi hz hsz hby hzs hpos hbb hd hs h1 hn hB
  obtain ⟨b, cap, rfl⟩ := append_form h2 hm
  refine ⟨b, cap, w', hr, h2, h3, ?_⟩
  have hd0 := hd
  obtain ⟨hl, ⟨rfl, rfl⟩ | ⟨g, c, cur, rfl, hg, hh, hc, hmx, hcs, htk⟩⟩ := hd
  · right
    have hx : xs = [] := List.eq_nil_of_length_eq_zero (by simpa using hl)
    subst hx
    obtain ⟨v2, w2, hr2, h4, -⟩ := run_app (ty := ty) (B := w.heap.size) ht hi hz hsz hby hzs hpos hbb ⟨hl, .inl ⟨rfl, rfl⟩⟩ hs h1 hn (Nat.le_refl _)
    rw [hr] at hr2
    cases hr2
    exact (World.ownsRow.lt h4 b rfl).1
  · rcases hs with ⟨rfl, rfl, rfl⟩ | ⟨ad, c2, rfl, hnl, hnc⟩
    · have hr2 := run_append_owned_none (P := Try.prog) (w := w) B t ty e i0 size ht hi (.slice (some ⟨g, 0, none⟩) n c) n xs hd0
      rw [hr] at hr2
      simp only [Result.ok.injEq, Value.slice.injEq, Option.some.injEq, Addr.mk.injEq, and_true] at hr2
      left
      rw [← hr2.1.1]
      rfl
    · by_cases hroom : n + m ≤ c
      · have hfit : n * i0.size + news.length ≤ cur.size := by
          rw [hnl, hcs, hsz, ← Nat.add_mul]
          exact Nat.mul_le_mul_right _ hroom
        have hr2 := run_append_room (P := Try.prog) w t ty e i0 ht hi g n c cur hh ad m c2 news (by rw [hsz]; exact hnl) hnc h1 hroom hfit
        rw [hr] at hr2
        simp only [Result.ok.injEq, Value.slice.injEq, Option.some.injEq, Addr.mk.injEq, and_true] at hr2
        left
        rw [← hr2.1.1]
        rfl
      · have hold := hd0.cells (g := g) rfl
        have hr2 := run_append_grow (P := Try.prog) w t ty e i0 z ht hi hz ⟨g, 0, none⟩ n c xs (by rw [hsz]; exact hl) hold ad m c2 news (by rw [hsz]; exact hnl) hnc (by omega) (by omega) (growslice_fits (by omega) (by
          rw [hby]
          have := Nat.mul_le_mul hn hbb
          omega))
        rw [hr] at hr2
        simp only [Result.ok.injEq, Value.slice.injEq, Option.some.injEq, Addr.mk.injEq, and_true] at hr2
        right
        rw [hr2.1.1]
        exact Nat.le_refl _

end Go.Proofs.Ytobplffailbkbaa
