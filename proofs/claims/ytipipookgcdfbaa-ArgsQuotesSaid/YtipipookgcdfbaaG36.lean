/-
  Texts of the proof, put together: AgCutW, AgColP, AgTxt.
-/
import Derived.Test.YtipipookgcdfbaaG34
import Derived.Test.YtipipookgcdfbaaG35
import Derived.IntWalk
import Derived.Test.YtipipookgcdfbaaG33

/-
  cuts, walked.
-/
namespace Go.Proofs.Ytipipookgcdfbaa
open Go.RowKit

set_option maxRecDepth 100000 in
set_option maxHeartbeats 12800000 in
theorem cuts_any {T : List Xt} {v : Value} {w : World} (h : ToksX T v w) (hT : T.length ≤ 300000) : Calls Try.prog 28 #[v] w (CutPost w (cutsL T)) := by
  obtain ⟨a, n, cap, rfl⟩ := h.form
  match T, h, hT with
  | [], h, _ =>
    obtain rfl : n = 0 := h.len.1
    clear h
    go_enter Try.func28, Try.ntmps28
    go_wp2
    go_ret2
    exact ⟨rfl, Below.refl _ _⟩
  | t :: r, h, hT =>
    obtain ⟨g, o, sa, sn, sc, ha, hg, -, hx, -⟩ := h.get (k := 0) (t := t) rfl
    rw [Nat.zero_mul, Nat.add_zero] at hx
    obtain ⟨hn, hc1, hc2⟩ := h.len
    unfold maxLen at hc2
    have hn1 : 1 ≤ n := by rw [hn]; simp
    subst ha
    obtain ⟨y0, y1, y2, y3, y4, y5, y6, y7⟩ := hx
    have HIS : Hid (∀ X : World, Calls Try.prog 45 #[.agg #[.int .i64 t.k, .string t.x, .bool t.sp, .string t.g, .int .i64 t.f, .int .i64 t.t, .bool t.d, .slice sa sn sc], .string oB] X (BoolNew (isX t oB) X)) := Lib.hid (fun X => punct_any t oB sa sn sc X)
    have hne : ((n : Int) == 0) = false := by simp; omega
    have hn0 : (0 : Int) < (n : Int) := by omega
    have H := Lib.hid h
    have HN := Lib.hid hn
    cases hb : isX t oB with
    | false =>
      have HE : Hid (cutsL (t :: r) = none) := Lib.hid (by show (if isX t oB then _ else _) = _; rw [hb]; rfl)
      rw [hb] at HIS
      clear h hn hb
      go_enter Try.func28, Try.ntmps28
      go_wp2_with (go_at_call 45; (with_reducible refine (HIS.out _).mono ?_); rintro e w1 ⟨rfl, hb1⟩; have HB1 := Lib.hid hb1; clear hb1)
      go_ret2
      rw [HE.out]
      exact ⟨rfl, HB1.out⟩
    | true =>
      have HST := Lib.hid (fun (X : World) (hX : Below w.heap.size w X) => cus_start (r := r) hb hX)
      rw [hb] at HIS
      obtain ⟨T, hTT⟩ : ∃ T, t :: r = T := ⟨_, rfl⟩
      rw [hTT] at H HST HN hT ⊢
      have HTL : Hid (T.length ≤ 300000) := Lib.hid hT
      clear h hn hb hTT hT
      go_enter Try.func28, Try.ntmps28
      go_wp2_with (go_at_call 45; (with_reducible refine (HIS.out _).mono ?_); rintro e w1 ⟨rfl, hb1⟩; have HB1 := Lib.hid hb1; clear hb1)
      clear y0 y1 y2 y3 y4 y5 y6 y7 HIS
      go_loopw [4, 5, 6] (CuRel w T) (fun _ _ i _ => n - (intOf i).toNat)
      case atStart => exact curel_mk (d := 0) (i := 1) rfl rfl (Nat.le_refl _) (by have := HN.out; omega) (Nat.zero_le _) (HST.out _ HB1.out)
      case round =>
        obtain ⟨d, i, am, nm, cm, rfl, rfl, rfl, hi1, hi2, hdi, hst⟩ := hrel
        have HR := Lib.hid hst
        have hi3 : i ≤ 300000 := Nat.le_trans hi2 HTL.out
        have hin : i ≤ n := by have := HN.out; omega
        have HBW : Hid (Below w.heap.size w wr) := Lib.hid HR.out.bel
        clear hst hi2
        by_cases hlt : i < n
        · obtain ⟨t, ht⟩ : ∃ t, T[i]? = some t := ⟨_, List.getElem?_eq_getElem (by have := HN.out; omega)⟩
          obtain ⟨g', o', sa, sn, sc, ha, hg', -, hxw, hsw⟩ := H.out.get ht
          obtain ⟨rfl, rfl⟩ : g = g' ∧ o = o' := by simpa using ha
          have HX : Hid (AtR wr t (.slice sa sn sc) g (o + i * 8) wr) := Lib.hid ⟨hxw.next HBW.out hg', Nat.lt_of_lt_of_le hg' HBW.out.size, Below.refl _ _⟩
          have HT := Lib.hid ht
          have hltI : (i : Int) < (n : Int) := by omega
          have hi0 : (0 : Int) ≤ (i : Int) := by omega
          have hic : (i : Int) ≤ 300000 := by omega
          have hdc : (d : Int) ≤ 300000 := by omega
          have hd00 : (0 : Int) ≤ (d : Int) := by omega
          have HO : Hid (∀ X : World, Calls Try.prog 45 #[.agg #[.int .i64 t.k, .string t.x, .bool t.sp, .string t.g, .int .i64 t.f, .int .i64 t.t, .bool t.d, .slice sa sn sc], .string ⟨#[40]⟩] X (BoolNew (isX t oB) X)) := Lib.hid (fun X => punct_any t oB sa sn sc X)
          have HC : Hid (∀ X : World, Calls Try.prog 45 #[.agg #[.int .i64 t.k, .string t.x, .bool t.sp, .string t.g, .int .i64 t.f, .int .i64 t.t, .bool t.d, .slice sa sn sc], .string ⟨#[41]⟩] X (BoolNew (isX t cB) X)) := Lib.hid (fun X => punct_any t cB sa sn sc X)
          have HK : Hid (∀ X : World, Calls Try.prog 45 #[.agg #[.int .i64 t.k, .string t.x, .bool t.sp, .string t.g, .int .i64 t.f, .int .i64 t.t, .bool t.d, .slice sa sn sc], .string ⟨#[44]⟩] X (BoolNew (isX t kB) X)) := Lib.hid (fun X => punct_any t kB sa sn sc X)
          have HOC : Hid (isX t oB = true → isX t cB = false) := Lib.hid fun h => sign_one h (by decide)
          have HKC : Hid (isX t kB = true → isX t cB = false) := Lib.hid fun h => sign_one h (by decide)
          have HKO : Hid (isX t kB = true → isX t oB = false) := Lib.hid fun h => sign_one h (by decide)
          have HCO' : Hid (isX t cB = true → isX t oB = false) := Lib.hid fun h => sign_one h (by decide)
          clear ht hxw hsw hg' ha
          obtain ⟨⟨y0, y1, y2, y3, y4, y5, y6, y7⟩, -⟩ := HX.out
          have HMK := Lib.hid (fun (X : World) (hX : Below wr.heap.size wr X) (ty : TypeId) (sv : Value) (hs : Src X sv 1 1 [.int .i64 (i : Int)]) => (HR.out.over hX).mark (ty := ty) (by omega) hs)
          by_cases hd : d = 0 ∧ isX t cB = true
          · obtain ⟨rfl, hb1⟩ := hd
            have hb0 := HCO'.out hb1
            rw [hb1] at HC
            rw [hb0] at HO
            have HSH := Lib.hid hb1
            clear hb1 hb0 HOC HKC HKO HCO'
            go_wp2_with (first
              | (go_at_call 45; (first | (with_reducible refine (HC.out _).mono ?_) | (with_reducible refine (HO.out _).mono ?_)); rintro e wq ⟨rfl, hbq⟩; have HXn := Lib.hid (HX.out.next hbq); clear HX hbq y0 y1 y2 y3 y4 y5 y6 y7; have HX := HXn; clear HXn; obtain ⟨⟨y0, y1, y2, y3, y4, y5, y6, y7⟩, -⟩ := HX.out)
              | (at_builtin; refine wpList_append_sl rfl (.tmp 42) (.tmp 44) 55 rfl _ (HMK.out _ (below_up HX.out.2.2 ((Below.refl _ _).alloc (Nat.le_refl _) _)) _ _ (src_one _ _ _)) ?_; intro b9 n9 c9 w9 h9; have H9 := Lib.hid h9; clear h9 y0 y1 y2 y3 y4 y5 y6 y7))
            go_ret2
            exact CuS.shut H9.out.2 HT.out HSH.out
          · by_cases hk : d = 0 ∧ isX t kB = true
            · obtain ⟨rfl, hb2⟩ := hk
              have hb1 := HKC.out hb2
              have hb0 := HKO.out hb2
              rw [hb1] at HC
              rw [hb0] at HO
              rw [hb2] at HK
              have HSH := Lib.hid hb2
              clear hb1 hb0 hb2 HOC HKC HKO HCO'
              go_wp2_with (first
                | (go_at_call 45; (first | (with_reducible refine (HC.out _).mono ?_) | (with_reducible refine (HO.out _).mono ?_) | (with_reducible refine (HK.out _).mono ?_)); rintro e wq ⟨rfl, hbq⟩; have HXn := Lib.hid (HX.out.next hbq); clear HX hbq y0 y1 y2 y3 y4 y5 y6 y7; have HX := HXn; clear HXn; obtain ⟨⟨y0, y1, y2, y3, y4, y5, y6, y7⟩, -⟩ := HX.out)
                | (at_builtin; refine wpList_append_sl rfl (.tmp 56) (.tmp 58) 55 rfl _ (HMK.out _ (below_up HX.out.2.2 ((Below.refl _ _).alloc (Nat.le_refl _) _)) _ _ (src_one _ _ _)) ?_; intro b9 n9 c9 w9 h9; have H9 := Lib.hid h9; clear h9 y0 y1 y2 y3 y4 y5 y6 y7))
              go_roundw
              case rel => exact curel_mk (d := 0) (i := i + 1) rfl (by go_num) (by omega) (by have := HN.out; omega) (Nat.zero_le _) (CuS.comma H9.out.2 HT.out HSH.out)
              case measure => simp [intOf]; omega
            · have HCO : Hid (d = 0 → isX t cB = false ∧ isX t kB = false) := Lib.hid fun e => ⟨by cases h : isX t cB with
                | true => exact (hd ⟨e, h⟩).elim
                | false => rfl, by cases h : isX t kB with
                | true => exact (hk ⟨e, h⟩).elim
                | false => rfl⟩
              clear hd hk
              obtain ⟨bo, hbo⟩ : ∃ b, isX t oB = b := ⟨_, rfl⟩
              obtain ⟨bc, hbc⟩ : ∃ b, isX t cB = b := ⟨_, rfl⟩
              obtain ⟨bk, hbk⟩ : ∃ b, isX t kB = b := ⟨_, rfl⟩
              have HDN : Hid (cutD d t = if bo then d + 1 else if bc then d - 1 else d) := Lib.hid (by unfold cutD; rw [hbo, hbc])
              have HMO := Lib.hid (fun (X : World) (hX : Below wr.heap.size wr X) => (HR.out.over hX).step HT.out HCO.out)
              rw [hbo] at HO HOC HKO HCO'
              rw [hbc] at HC HOC HKC HCO HCO'
              rw [hbk] at HK HKC HKO HCO
              obtain ⟨bd, hbd⟩ : ∃ b, ((d : Int) == 0) = b := ⟨_, rfl⟩
              have hbd2 : bd = decide (d = 0) := by rw [← hbd]; simp [Bool.beq_eq_decide_eq]
              have HW : Hid ((bo = true ∧ bc = false) ∨ (bo = false ∧ bc = true ∧ bd = false) ∨ (bo = false ∧ bc = false ∧ bd = false) ∨ (bo = false ∧ bc = false ∧ bd = true ∧ bk = false)) := Lib.hid (by
                have h1 := HCO.out
                have h2 := HOC.out
                by_cases e : d = 0
                · obtain ⟨rfl, rfl⟩ := h1 e
                  cases bo <;> simp [hbd2, e]
                · cases bo <;> cases bc <;> simp_all)
              have HDB : Hid (bd = false → 1 ≤ d) := Lib.hid fun e => by rw [hbd2, decide_eq_false_iff_not] at e; omega
              have HD2 : Hid (bd = false → ((d : Int) == 0) = false) := Lib.hid fun e => by rw [hbd2, decide_eq_false_iff_not] at e; simp; omega
              have hde : ((d : Int) + 1 == 1) = bd := by rw [hbd2, Bool.eq_iff_iff, beq_iff_eq, decide_eq_true_eq]; omega
              clear hbo hbc hbk HOC HKO HKC HCO HCO' hbd2 hbd
              rcases HW.out with ⟨rfl, rfl⟩ | ⟨rfl, rfl, rfl⟩ | ⟨rfl, rfl, rfl⟩ | ⟨rfl, rfl, rfl, rfl⟩
              all_goals clear HW HMK
              all_goals (
                have hd9 := HD2.out
                clear HD2
                go_wp2_with (first
                  | (go_at_call 45; (first | (with_reducible refine (HC.out _).mono ?_) | (with_reducible refine (HK.out _).mono ?_) | (with_reducible refine (HO.out _).mono ?_)); rintro e wq ⟨rfl, hbq⟩; have HXn := Lib.hid (HX.out.next hbq); clear HX hbq y0 y1 y2 y3 y4 y5 y6 y7; have HX := HXn; clear HXn; obtain ⟨⟨y0, y1, y2, y3, y4, y5, y6, y7⟩, -⟩ := HX.out))
                all_goals go_roundw
                all_goals first
                  | exact curel_mk (d := cutD d t) (i := i + 1) (by rw [HDN.out]; have hq := HDB.out; first | (simp; done) | (simp at hq; simp; omega)) (by go_num) (by omega) (by have := HN.out; omega) (by rw [HDN.out]; (try simp); omega) (HMO.out _ HX.out.2.2)
                  | (simp [intOf]; omega))
        · have hltI : ¬ (i : Int) < (n : Int) := by omega
          have HEND : Hid (cutsL T = none) := Lib.hid (by
            obtain ⟨M, -, hE, -⟩ := HR.out
            rw [hE, List.drop_of_length_le (by have := HN.out; omega)]
            rfl)
          go_wp2
          go_ret2
          rw [HEND.out]
          exact ⟨rfl, HBW.out⟩

end Go.Proofs.Ytipipookgcdfbaa

/-
  The project's Collect: pieces of a row of tokens, and steps.
-/
namespace Go.Proofs.Ytipipookgcdfbaa
open Go.RowKit

theorem step_ap {ops : Array Oper} {o : Oper} {a : Act} {w : World} {K : Act → World → Prop} {Q : Exit → Act → World → Prop} {E : Prop} (hgd : o.guard = none) (s x : Operand) (t : TypeId)
    (ho : o.op = .call { callee := .builtin .append, args := #[s, x], argTypes := #[t, t] }) (R : Nat → Nat → Nat → World → Prop) (d v : Value) (hs : a.eval s = d) (hx : a.eval x = v)
    (h : ∃ b n c w', (Builtin.append_ #[t, t] o.type #[d, v]).run Try.prog w = .ok (.slice (some ⟨b, 0, none⟩) n c) w' ∧ R b n c w')
    (hK : ∀ b n c w', R b n c w' → K (a.put o.dst (.slice (some ⟨b, 0, none⟩) n c)) w') :
    if Region.wanted o (yielded ops a.tmps) = true then Oper.wp Try.prog o a w K Q else E := by
  have hw : Region.wanted o (yielded ops a.tmps) = true := by simp [Region.wanted, hgd]
  rw [if_pos hw]
  obtain ⟨b, n, c, w', hr, hR⟩ := h
  unfold Oper.wp execOp
  simp only [ho, resolve, invoke, builtin, Sem.run_bind, Sem.run_pure, Result.andThen_ok, List.map_toArray, List.map_cons, List.map_nil, hs, hx, hr]
  exact hK b n c w' hR

/-- All that the push of a row asks, at a world. -/
structure PuL (W : World) (ls : List (List Xt)) (cs : List Xt) (al : Option Addr) (nl cl : Nat) (ac : Option Addr) (nc cc : Nat) (T : List Xt) (b : Option Addr) (n c : Nat) (w : World) : Prop where
  cr : CR W ls cs al nl cl ac nc cc w
  held : HeldIn (NotHot al ac) w (ToksX T (.slice b n c))
  nil : b = none → c = 0
  small : nl ≤ 999999
theorem PuL.app {W : World} {ls : List (List Xt)} {cs : List Xt} {al : Option Addr} {nl cl : Nat} {ac : Option Addr} {nc cc : Nat} {T : List Xt} {b : Option Addr} {n c : Nat} {w : World} {ty : TypeId} (h : Hid (PuL W ls cs al nl cl ac nc cc T b n c w)) :
    ∃ b' n' cap w', (Builtin.append_ #[31, 31] ty #[.slice al nl cl, .slice (some ⟨w.heap.size, 0, none⟩) 1 1]).run Try.prog (w.alloc (.cells #[.slice b n c] 22)) = .ok (.slice (some ⟨b', 0, none⟩) n' cap) w' ∧ (n' = nl + 1 ∧ CR W (ls ++ [T]) cs (some ⟨b', 0, none⟩) n' cap ac nc cc w') := by
  obtain ⟨b', n', cap, w', hr, hn, hC, -⟩ := CR.pushL (ty := ty) (h.out.cr.over ((Below.refl _ _).alloc (Nat.le_refl _) _)) (h.out.held.over (StillB.of_below ((Below.refl _ _).alloc (Nat.le_refl _) _))) h.out.nil (src_one w (.slice b n c) 22) h.out.small
  exact ⟨b', n', cap, w', hr, hn, hC⟩

set_option maxRecDepth 100000 in
/-- l[a+1:b] of tokens. -/
theorem cut_run (g o n cap a b : Nat) (h1 : a + 1 ≤ b) (h2 : b < n) (h3 : n ≤ cap) (w : World) : (Instr.slice 22 (.slice (some ⟨g, o, none⟩) n cap) (some (.int .i64 ((a : Int) + 1))) (some (.int .i64 (b : Int))) none).run Try.prog w = .ok (.slice (some ⟨g, o + (a + 1) * 8, none⟩) (b - (a + 1)) (cap - (a + 1))) w := by
  have a0 : (0 : Int) ≤ (a : Int) + 1 := by omega
  have a1 : (a : Int) + 1 ≤ (b : Int) := by omega
  have a2 : (b : Int) ≤ (cap : Int) := by omega
  have a4 : (0 : Int) ≤ (b : Int) := by omega
  have a5 : Try.prog.cellsOf 50 = 8 := by kernel_rfl
  have a6 : ((a : Int) + 1).toNat = a + 1 := by omega
  have hc' : (cap == a + 1) = false := by simp; omega
  simp [Instr.slice, run_underlying Try.underlying22, Instr.sliceBounds, run_sliceBound, Addr.add, *]
  try omega

theorem seg_toks {T : List Xt} {g o n cap : Nat} {w : World} (h : ToksX T (.slice (some ⟨g, o, none⟩) n cap) w) {a b : Nat} (h1 : a + 1 ≤ b) (h2 : b < n) : ToksX (segL T a b) (.slice (some ⟨g, o + (a + 1) * 8, none⟩) (b - (a + 1)) (cap - (a + 1))) w := by
  obtain ⟨hn, hc1, hc2⟩ := h.len
  have hl : (segL T a b).length = b - (a + 1) := by
    unfold segL
    rw [List.length_take, List.length_drop]
    omega
  refine ⟨some ⟨g, o + (a + 1) * 8, none⟩, cap - (a + 1), by rw [hl], by rw [hl]; omega, by omega, fun k t ht => ?_⟩
  have hk := (List.getElem?_eq_some_iff.1 ht).1
  unfold segL at ht
  rw [List.getElem?_take_of_lt (by omega), List.getElem?_drop] at ht
  obtain ⟨g', o2, sa, sn, sc, ha, hg, -, hx, hs⟩ := h.get ht
  obtain ⟨rfl, rfl⟩ : g = g' ∧ o = o2 := by simpa using ha
  refine ⟨g, o + (a + 1) * 8, rfl, hg, _, ?_, hs⟩
  rw [show o + (a + 1) * 8 + k * 8 = o + (a + 1 + k) * 8 from by omega]
  exact hx
theorem seg_in {T : List Xt} {a b : Nat} {t : Xt} (h : t ∈ segL T a b) : t ∈ T := List.mem_of_mem_drop (List.mem_of_mem_take h)
theorem seg_le (T : List Xt) (a b : Nat) : (segL T a b).length ≤ T.length := by
  unfold segL
  rw [List.length_take, List.length_drop]
  omega

theorem rises_at {n : Nat} {M : List Nat} (hR : Rises n M) : ∀ (k a : Nat), M[k]? = some a → k ≤ a
  | 0, a, _ => Nat.zero_le _
  | k + 1, a, h => by
    obtain ⟨b, hb⟩ : ∃ b, M[k]? = some b := ⟨_, List.getElem?_eq_getElem (by have := (List.getElem?_eq_some_iff.1 h).1; omega)⟩
    have := rises_at hR k b hb
    have := (hR k b a hb h).1
    omega
theorem rises_len {n : Nat} {M : List Nat} (hR : Rises n M) (hB : ∀ x ∈ M, x < n) : M.length ≤ n := by
  rcases Nat.eq_zero_or_pos M.length with h | h
  · omega
  · obtain ⟨a, ha⟩ : ∃ a, M[M.length - 1]? = some a := ⟨_, List.getElem?_eq_getElem (by omega)⟩
    have := rises_at hR _ _ ha
    have := hB a (List.mem_of_getElem? ha)
    omega

theorem nvals_get {M : List Nat} {k a : Nat} (h : M[k]? = some a) : (nvals M)[k]? = some (a : Int) := by
  unfold nvals
  rw [List.getElem?_map, h]
  rfl
theorem take_next {α : Type} {l : List α} {k : Nat} {a : α} (h : l[k]? = some a) : l.take (k + 1) = l.take k ++ [a] := by
  rw [List.take_add_one, h]
  rfl

set_option maxRecDepth 100000 in
/-- marks[1:last]. -/
theorem mid_run (g o n cap l : Nat) (h1 : 1 ≤ l) (h2 : l < n) (h3 : n ≤ cap) (w : World) : (Instr.slice 55 (.slice (some ⟨g, o, none⟩) n cap) (some (.int .i64 1)) (some (.int .i64 (l : Int))) none).run Try.prog w = .ok (.slice (some ⟨g, o + 1, none⟩) (l - 1) (cap - 1)) w := by
  have a1 : (1 : Int) ≤ (l : Int) := by omega
  have a2 : (l : Int) ≤ (cap : Int) := by omega
  have a4 : (0 : Int) ≤ (l : Int) := by omega
  have a5 : Try.prog.cellsOf 3 = 1 := by kernel_rfl
  have hc' : (cap == 1) = false := by simp; omega
  simp [Instr.slice, run_underlying Try.underlying55, Instr.sliceBounds, run_sliceBound, Addr.add, *]
  omega

end Go.Proofs.Ytipipookgcdfbaa

/-
  Tokens as a text: the project's Text, walked.
-/
namespace Go.Proofs.Ytipipookgcdfbaa
open Go.RowKit

theorem text_next {T : List Xt} {k : Nat} {t : Xt} (ht : T[k]? = some t) : textT (T.take (k + 1)) = textT (T.take k) ++ (if decide (0 < k) && t.sp then 32 :: t.x.data.toList else t.x.data.toList) := by
  have hl := (List.getElem?_eq_some_iff.1 ht).1
  rw [take_next ht, textT_snoc, show (T.take k).length = k from by rw [List.length_take]; omega]
theorem text_fit {T : List Xt} {k : Nat} {t : Xt} (ht : T[k]? = some t) (hz : (textT T).length ≤ 1000000) : t.x.size ≤ 1000000 := by
  have h := textT_le T (k + 1)
  rw [text_next ht, List.length_append] at h
  rw [← bytes_len]
  split at h
  · rw [List.length_cons] at h; omega
  · omega

def LtRel (w : World) (T : List Xt) (n : Nat) (t8 : Value) (wr : World) : Prop :=
  ∃ k : Nat, t8 = .int .i64 (k : Int) ∧ k ≤ n ∧ BldK w.heap.size (textT (T.take k)) wr ∧ Below w.heap.size w wr
/-- The token's box, beside the Builder. -/
def LtMid (w : World) (t : Xt) (sv : Value) (l : List UInt8) (b : Nat) (X : World) : Prop := BldK w.heap.size l X ∧ Below w.heap.size w X ∧ b ≠ w.heap.size ∧ X.heap[b]? = some (tokObj (t, sv))
theorem LtMid.text {w : World} {t : Xt} {sv : Value} {l : List UInt8} {b : Nat} {X : World} (h : LtMid w t sv l b X) : X.cell? ⟨b, 1, none⟩ = some (.string t.x) ∧ X.cell? ⟨b, 2, none⟩ = some (.bool t.sp) := by
  have hb := h.2.2.2
  unfold tokObj at hb
  exact ⟨by rw [Lib.cell_of_heap hb]; rfl, by rw [Lib.cell_of_heap hb]; rfl⟩
theorem LtMid.kept {w : World} {t : Xt} {sv : Value} {l l' : List UInt8} {b : Nat} {X Y : World} (h : LtMid w t sv l b X) (hb : BldK w.heap.size l' Y) (hk : KeptB w.heap.size X Y) : LtMid w t sv l' b Y :=
  ⟨hb, h.2.1.trans hk.1, h.2.2.1, hk.box (by have hx := h.2.2.2; unfold tokObj at hx; exact hx) h.2.2.1⟩
theorem LtMid.new {w wr : World} (t : Xt) (sv : Value) {l : List UInt8} (hB : BldK w.heap.size l wr) (hW : Below w.heap.size w wr) : LtMid w t sv l wr.heap.size (wr.alloc (.cells #[.int .i64 t.k, .string t.x, .bool t.sp, .string t.g, .int .i64 t.f, .int .i64 t.t, .bool t.d, sv] 50)) :=
  ⟨bldk_over hB ((Below.refl _ _).alloc (Nat.le_refl _) _), hW.alloc hW.size _, by have := bldk_lt hB; omega, heap_alloc_new _ _⟩

set_option maxRecDepth 100000 in
set_option maxHeartbeats 3200000 in
theorem ltext_any {T : List Xt} {v : Value} {w : World} (h : ToksX T v w) (hz : (textT T).length ≤ 1000000) : Calls Try.prog 39 #[v] w (StrNew ⟨(textT T).toArray⟩ w) := by
  obtain ⟨a, n, cap, rfl⟩ := h.form
  obtain ⟨hn, hc1, hc2⟩ := h.len
  unfold maxLen at hc2
  have HN := Lib.hid hn
  have HX := Lib.hid h
  have HZ := Lib.hid hz
  clear h hn hz
  go_enter Try.func39, Try.ntmps39
  go_wp2
  go_loopw [8] (LtRel w T n) (fun i _ => n - (intOf i).toNat)
  case atStart => exact ⟨0, rfl, Nat.zero_le _, bldk_new w, (Below.refl _ _).alloc (Nat.le_refl _) _⟩
  case round =>
    obtain ⟨k, rfl, hk, hB, hW⟩ := hrel
    have HB := Lib.hid hB
    have HW := Lib.hid hW
    clear hB hW
    by_cases hlt : k < n
    · obtain ⟨t, ht⟩ : ∃ t, T[k]? = some t := ⟨_, List.getElem?_eq_getElem (by rw [← HN.out]; exact hlt)⟩
      obtain ⟨g, o, sa, sn, sc, rfl, hg, -, hx, -⟩ := HX.out.get ht
      obtain ⟨y0, y1, y2, y3, y4, y5, y6, y7⟩ := hx.next HW.out hg
      have HTX := Lib.hid (text_next ht)
      have hxs := text_fit ht HZ.out
      have HLE : Hid ((textT (T.take k)).length ≤ 1000000) := Lib.hid (Nat.le_trans (textT_le T k) HZ.out)
      have hkI : (k : Int) < (n : Int) := by omega
      have hk0 : (0 : Int) ≤ (k : Int) := by omega
      have HMD : Hid (LtMid w t (.slice sa sn sc) (textT (T.take k)) wr.heap.size (wr.alloc (.cells #[.int .i64 t.k, .string t.x, .bool t.sp, .string t.g, .int .i64 t.f, .int .i64 t.t, .bool t.d, .slice sa sn sc] 50))) := Lib.hid (LtMid.new t _ HB.out HW.out)
      obtain ⟨L, hL⟩ : ∃ L, textT (T.take k) = L := ⟨_, rfl⟩
      rw [hL] at HTX HLE HMD
      clear ht hx hL HB
      by_cases hsk : t.sp = true ∧ 0 < k
      · obtain ⟨hsp, h0⟩ := hsk
        have HTX2 : Hid (textT (T.take (k + 1)) = (L ++ [32]) ++ t.x.data.toList) := Lib.hid (by rw [HTX.out, hsp, decide_eq_true h0]; simp)
        have h0I : (0 : Int) < (k : Int) := by omega
        rw [hsp] at y2
        have HM2 : Hid (LtMid w t (.slice sa sn sc) L wr.heap.size (wr.alloc (.cells #[.int .i64 t.k, .string t.x, .bool true, .string t.g, .int .i64 t.f, .int .i64 t.t, .bool t.d, .slice sa sn sc] 50))) := Lib.hid (by have h := HMD.out; rw [hsp] at h; exact h)
        have HLL : Hid ((L ++ [32]).length + t.x.size ≤ 10000000) := Lib.hid (by have := HLE.out; simp only [List.length_append, List.length_cons, List.length_nil]; omega)
        clear hsp HTX HMD h0
        go_wp2_with (first
          | (go_at_call 52; (refine (blk_byte (n := 32) HM2.out.1 32 (by decide) (by have := HLE.out; omega) HM2.out.2.1.size).mono ?_); rintro e w2 ⟨rfl, h2, b2⟩; have HM3 := Lib.hid (HM2.out.kept h2 b2); obtain ⟨z1, z2⟩ := HM3.out.text; clear h2 b2)
          | (go_at_call 54; (refine (blk_text HM3.out.1 t.x HLL.out HM3.out.2.1.size).mono ?_); rintro e w4 ⟨rfl, h4, b4⟩; have HM4 := Lib.hid (HM3.out.kept h4 b4); clear h4 b4))
        go_roundw
        case rel => exact ⟨k + 1, by go_num, hlt, by rw [HTX2.out]; exact HM4.out.1, HM4.out.2.1⟩
        case measure => simp [intOf]; omega
      · have HTX2 : Hid (textT (T.take (k + 1)) = L ++ t.x.data.toList) := Lib.hid (by
          rw [HTX.out]
          have : (decide (0 < k) && t.sp) = false := by
            cases h : t.sp with
            | false => simp
            | true => rw [decide_eq_false (fun h0 => hsk ⟨h, h0⟩)]; rfl
          rw [this]
          rfl)
        have HWY : Hid (t.sp = false ∨ (t.sp = true ∧ ¬ (0 : Int) < (k : Int))) := Lib.hid (by
          cases h : t.sp with
          | false => exact .inl rfl
          | true => exact .inr ⟨rfl, fun h0 => hsk ⟨h, by omega⟩⟩)
        clear hsk HTX
        rcases HWY.out with hsp | ⟨hsp, h0⟩
        all_goals (
          rw [hsp] at y2
          have HM3 := HMD
          rw [hsp] at HM3
          clear HWY hsp HMD
          go_wp2_with (go_at_call 54; (refine (blk_text HM3.out.1 t.x (by have := HLE.out; omega) HM3.out.2.1.size).mono ?_); rintro e w4 ⟨rfl, h4, b4⟩; have HM4 := Lib.hid (HM3.out.kept h4 b4); clear h4 b4)
          go_roundw
          case rel => exact ⟨k + 1, by go_num, hlt, by rw [HTX2.out]; exact HM4.out.1, HM4.out.2.1⟩
          case measure => simp [intOf]; omega)
    · have hkI : ¬ (k : Int) < (n : Int) := by omega
      have HE : Hid (T.take k = T) := Lib.hid (List.take_of_length_le (by have := HN.out; omega))
      go_wp2_with (go_at_call 53; (with_reducible refine (blk_str HB.out HW.out.size).mono ?_); rintro e w4 ⟨rfl, b4⟩; have HW4 := Lib.hid (HW.out.trans b4); clear b4)
      go_ret
      rw [HE.out]
      exact ⟨rfl, HW4.out⟩

end Go.Proofs.Ytipipookgcdfbaa
