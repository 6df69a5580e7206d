/-
  Texts of the proof, put together: AgColW.
-/
import Derived.Test.YtipipookgcdfbaaG33

/-
  The document's Collect, walked.
-/
namespace Go.Proofs.Ytipipookgcdfbaa
open Go.RowKit

def RcRel (w : World) (T : List Xt) (t6 t7 t8 t9 t10 : Value) (wr : World) : Prop :=
  ∃ (d i : Nat) (P : List (Xt × Value)) (al : Option Addr) (nl cl : Nat) (ac : Option Addr) (nc cc : Nat) (bn : Option Addr) (nn cn : Nat), t6 = .int .i64 (d : Int) ∧ t7 = .slice al nl cl ∧ t8 = .slice bn nn cn ∧ t9 = .slice ac nc cc ∧ t10 = .int .i64 (i : Int) ∧ 1 ≤ i ∧ i ≤ T.length ∧ d ≤ i ∧ RcS w T d i P al nl cl ac nc cc bn nn cn wr
theorem rcrel_mk {w : World} {T : List Xt} {a6 a10 : Value} {d i : Nat} {P : List (Xt × Value)} {al : Option Addr} {nl cl : Nat} {ac : Option Addr} {nc cc : Nat} {bn : Option Addr} {nn cn : Nat} {wr : World} (h6 : a6 = .int .i64 (d : Int)) (h10 : a10 = .int .i64 (i : Int)) (h1 : 1 ≤ i) (h2 : i ≤ T.length) (h3 : d ≤ i) (h : RcS w T d i P al nl cl ac nc cc bn nn cn wr) : RcRel w T a6 (.slice al nl cl) (.slice bn nn cn) (.slice ac nc cc) a10 wr :=
  ⟨d, i, P, al, nl, cl, ac, nc, cc, bn, nn, cn, h6, rfl, rfl, rfl, h10, h1, h2, h3, h⟩

/-- A token as it is read in the round. -/
def AtR (wr : World) (t : Xt) (sv : Value) (g o : Nat) (X : World) : Prop := TokX t sv g o X ∧ g < X.heap.size ∧ Below wr.heap.size wr X
theorem AtR.next {wr : World} {t : Xt} {sv : Value} {g o : Nat} {X Y : World} (h : AtR wr t sv g o X) (b : Below X.heap.size X Y) : AtR wr t sv g o Y := ⟨h.1.next b h.2.1, Nat.lt_of_lt_of_le h.2.1 b.size, below_up h.2.2 b⟩

set_option maxRecDepth 100000 in
set_option maxHeartbeats 12800000 in
theorem rcol_any {T : List Xt} {v : Value} {w : World} (h : ToksX T v w) (hT : T.length ≤ 300000) : Calls Try.prog 12 #[v] w (ColPost w (collectL T)) := by
  obtain ⟨a, n, cap, rfl⟩ := h.form
  match T, h, hT with
  | [], h, _ =>
    obtain rfl : n = 0 := h.len.1
    clear h
    go_enter Try.func12, Try.ntmps12
    go_wp2
    exact bodyPost_ret (v := .tuple #[.slice none 0 0, .slice none 0 0, .int .i64 0, .bool false]) (by simp [results, Try.results12, go_sem]) rfl ⟨rfl, Below.refl _ _⟩
  | t :: r, h, hT =>
    obtain ⟨g, o, sa, sn, sc, ha, hg, -, hx, -⟩ := h.get (k := 0) (t := t) rfl
    rw [Nat.zero_mul, Nat.add_zero] at hx
    obtain ⟨hn, hc1, hc2⟩ := h.len
    unfold maxLen at hc2
    have hn1 : 1 ≤ n := by rw [hn]; simp
    subst ha
    have hx0 : AtR w t (.slice sa sn sc) g o w := ⟨hx, hg, Below.refl _ _⟩
    obtain ⟨y0, y1, y2, y3, y4, y5, y6, y7⟩ := hx
    have HIS : Hid (∀ X : World, Calls Try.prog 30 #[.agg #[.int .i64 t.k, .string t.x, .bool t.sp, .string t.g, .int .i64 t.f, .int .i64 t.t, .bool t.d, .slice sa sn sc], .string oB] X (BoolNew (isX t oB) X)) := Lib.hid (fun X => isX_any t oB sa sn sc X)
    have hne : ((n : Int) == 0) = false := by simp; omega
    have hn0 : (0 : Int) < (n : Int) := by omega
    have H := Lib.hid h
    have HN := Lib.hid hn
    have HX0 := Lib.hid hx0
    cases hb : isX t oB with
    | false =>
      have HE : Hid (collectL (t :: r) = none) := Lib.hid (by show (if isX t oB then _ else _) = _; rw [hb]; rfl)
      rw [hb] at HIS
      clear h hn hb hx0
      go_enter Try.func12, Try.ntmps12
      go_wp2_with (go_at_call 30; (with_reducible refine (HIS.out _).mono ?_); rintro e w1 ⟨rfl, hb1⟩; have HB1 := Lib.hid hb1; clear hb1)
      rw [HE.out]
      exact bodyPost_ret (v := .tuple #[.slice none 0 0, .slice none 0 0, .int .i64 0, .bool false]) (by simp [results, Try.results12, go_sem]) rfl ⟨rfl, HB1.out⟩
    | true =>
      have HST : Hid (RcS w (t :: r) 0 1 [] none 0 0 none 0 0 none 0 0 w) := Lib.hid (RcS.start hb)
      rw [hb] at HIS
      obtain ⟨T, hTT⟩ : ∃ T, t :: r = T := ⟨_, rfl⟩
      rw [hTT] at H HST HN hT ⊢
      have HTL : Hid (T.length ≤ 300000) := Lib.hid hT
      clear h hn hb hx0 hTT hT
      go_enter Try.func12, Try.ntmps12
      go_wp2_with (go_at_call 30; (with_reducible refine (HIS.out _).mono ?_); rintro e w1 ⟨rfl, hb1⟩; have HB1 := Lib.hid hb1; clear hb1)
      clear y0 y1 y2 y3 y4 y5 y6 y7 HIS HX0
      go_loopw [6, 7, 8, 9, 10] (RcRel w T) (fun _ _ _ _ i _ => n - (intOf i).toNat)
      case atStart => exact rcrel_mk (d := 0) (i := 1) rfl rfl (Nat.le_refl _) (by have := HN.out; omega) (Nat.zero_le _) (HST.out.over HB1.out)
      case round =>
        obtain ⟨d, i, P, al, nl, cl, ac, nc, cc, bn, nn, cn, rfl, rfl, rfl, rfl, rfl, hi1, hi2, hdi, hst⟩ := hrel
        have HR := Lib.hid hst
        have hi3 : i ≤ 300000 := Nat.le_trans hi2 HTL.out
        have hin : i ≤ n := by have := HN.out; omega
        clear hst hi2
        by_cases hlt : i < n
        · obtain ⟨t, ht⟩ : ∃ t, T[i]? = some t := ⟨_, List.getElem?_eq_getElem (by have := HN.out; omega)⟩
          obtain ⟨g', o', sa, sn, sc, ha, hg', -, hxw, hsw⟩ := H.out.get ht
          obtain ⟨rfl, rfl⟩ : g = g' ∧ o = o' := by simpa using ha
          have HBW : Hid (Below w.heap.size w wr) := Lib.hid (by obtain ⟨ls, cs, hC, -⟩ := HR.out.st; exact hC.bel)
          have HX : Hid (AtR wr t (.slice sa sn sc) g (o + i * 8) wr) := Lib.hid ⟨hxw.next HBW.out hg', Nat.lt_of_lt_of_le hg' HBW.out.size, Below.refl _ _⟩
          have HXW := Lib.hid (show TokX t (.slice sa sn sc) g (o + i * 8) w ∧ g < w.heap.size from ⟨hxw, hg'⟩)
          have HSW := Lib.hid hsw
          have HT := Lib.hid ht
          have hltI : (i : Int) < (n : Int) := by omega
          have hi0 : (0 : Int) ≤ (i : Int) := by omega
          have hic : (i : Int) ≤ 300000 := by omega
          have hdc : (d : Int) ≤ 300000 := by omega
          have HO : Hid (∀ X : World, Calls Try.prog 30 #[.agg #[.int .i64 t.k, .string t.x, .bool t.sp, .string t.g, .int .i64 t.f, .int .i64 t.t, .bool t.d, .slice sa sn sc], .string ⟨#[40]⟩] X (BoolNew (isX t oB) X)) := Lib.hid (fun X => isX_any t oB sa sn sc X)
          have HC : Hid (∀ X : World, Calls Try.prog 30 #[.agg #[.int .i64 t.k, .string t.x, .bool t.sp, .string t.g, .int .i64 t.f, .int .i64 t.t, .bool t.d, .slice sa sn sc], .string ⟨#[41]⟩] X (BoolNew (isX t cB) X)) := Lib.hid (fun X => isX_any t cB sa sn sc X)
          have HK : Hid (∀ X : World, Calls Try.prog 30 #[.agg #[.int .i64 t.k, .string t.x, .bool t.sp, .string t.g, .int .i64 t.f, .int .i64 t.t, .bool t.d, .slice sa sn sc], .string ⟨#[44]⟩] X (BoolNew (isX t kB) X)) := Lib.hid (fun X => isX_any t kB sa sn sc X)
          have HOC : Hid (isX t oB = true → isX t cB = false) := Lib.hid fun h => sign_one h (by decide)
          have HKC : Hid (isX t kB = true → isX t cB = false) := Lib.hid fun h => sign_one h (by decide)
          have HOK : Hid (isX t oB = true → isX t kB = false) := Lib.hid fun h => sign_one h (by decide)
          clear ht hxw hsw hg' ha
          obtain ⟨⟨y0, y1, y2, y3, y4, y5, y6, y7⟩, -⟩ := HX.out
          by_cases hd : d = 0 ∧ isX t cB = true
          · obtain ⟨rfl, hb1⟩ := hd
            rw [hb1] at HC
            have HSH := Lib.hid (fun (X : World) (hX : Below wr.heap.size wr X) (ty : TypeId) (sv : Value) (hs : Src X sv 1 1 [.slice bn nn cn]) => (HR.out.over hX).shut (ty := ty) HT.out hb1 (by omega) hs)
            clear hb1
            go_wp2_with (first
              | (go_at_call 30; (with_reducible refine (HC.out _).mono ?_); rintro e wq ⟨rfl, hbq⟩; have HXn := Lib.hid (HX.out.next hbq); clear HX hbq y0 y1 y2 y3 y4 y5 y6 y7; have HX := HXn; clear HXn)
              | (at_builtin; refine wpList_append_sl rfl (.tmp 37) (.tmp 39) 31 rfl _ (HSH.out _ (below_up HX.out.2.2 ((Below.refl _ _).alloc (Nat.le_refl _) _)) _ _ (src_one _ _ _)) ?_; intro b9 n9 c9 w9 h9; have H9 := Lib.hid h9; clear h9))
            exact bodyPost_ret (v := .tuple #[.slice (some ⟨b9, 0, none⟩) n9 c9, .slice ac nc cc, .int .i64 ((i : Int) + 1), .bool true]) (by simp [results, Try.results12, go_sem]) rfl H9.out
          · by_cases hk : d = 0 ∧ isX t kB = true
            · obtain ⟨rfl, hb2⟩ := hk
              have hb1 := HKC.out hb2
              rw [hb1] at HC
              rw [hb2] at HK
              have HSH := Lib.hid (fun (X : World) (hX : Below wr.heap.size wr X) (ty : TypeId) (sv : Value) (hs : Src X sv 1 1 [.slice bn nn cn]) => (HR.out.over hX).comma1 (ty := ty) (by omega) hs)
              have HS2 := Lib.hid (fun (b9 n9 c9 : Nat) (X : World) (hX : Cm1 w T i (some ⟨b9, 0, none⟩) n9 c9 ac nc cc X) (ty : TypeId) (sv : Value) (hs : Src X sv 1 8 (xcell (t, .slice sa sn sc))) => comma2 (ty := ty) hX (by omega) HT.out hb2 HSW.out hs)
              clear hb1 hb2
              go_wp2_with (first
                | (go_at_call 30; (first | (with_reducible refine (HC.out _).mono ?_) | (with_reducible refine (HK.out _).mono ?_)); rintro e wq ⟨rfl, hbq⟩; have HXn := Lib.hid (HX.out.next hbq); clear HX hbq y0 y1 y2 y3 y4 y5 y6 y7; have HX := HXn; clear HXn; obtain ⟨⟨y0, y1, y2, y3, y4, y5, y6, y7⟩, -⟩ := HX.out)
                | (at_builtin; refine wpList_append_sl rfl (.tmp 54) (.tmp 56) 31 rfl _ (HSH.out _ (below_up HX.out.2.2 ((Below.refl _ _).alloc (Nat.le_refl _) _)) _ _ (src_one _ _ _)) ?_; intro b9 n9 c9 w9 h9; have H9 := Lib.hid h9; clear h9 y0 y1 y2 y3 y4 y5 y6 y7; obtain ⟨y0, y1, y2, y3, y4, y5, y6, y7⟩ := HXW.out.1.next H9.out.1 HXW.out.2)
                | (at_builtin; refine wpList_append_sl rfl (.tmp 58) (.tmp 63) 22 rfl _ (HS2.out _ _ _ _ (H9.out.2.over ((Below.refl _ _).alloc (Nat.le_refl _) _)) _ _ (src_tok (p := (t, .slice sa sn sc)) (blk_new _ _))) ?_; intro b8 n8 c8 w8 h8; have H8 := Lib.hid h8; clear h8 y0 y1 y2 y3 y4 y5 y6 y7))
              go_roundw
              case rel => exact rcrel_mk rfl (by go_num) (by omega) (by have := HN.out; omega) (Nat.zero_le _) H8.out.2
              case measure => simp [intOf]; omega
            · have HCO : Hid (d = 0 → isX t cB = false ∧ isX t kB = false) := Lib.hid fun e => ⟨by cases h : isX t cB with
                | true => exact (hd ⟨e, h⟩).elim
                | false => rfl, by cases h : isX t kB with
                | true => exact (hk ⟨e, h⟩).elim
                | false => rfl⟩
              clear hd hk
              obtain ⟨bo, hbo⟩ : ∃ b, isX t oB = b := ⟨_, rfl⟩
              obtain ⟨bc, hbc⟩ : ∃ b, isX t cB = b := ⟨_, rfl⟩
              obtain ⟨bk, hbk⟩ : ∃ b, isX t kB = b := ⟨_, rfl⟩
              have HDN : Hid (deepN d t = if bo then d + 1 else if bc then d - 1 else d) := Lib.hid (by unfold deepN; rw [hbo, hbc])
              have HMO := Lib.hid (fun (X : World) (hX : Below wr.heap.size wr X) (b : Option Addr) (n' c' : Nat) (Y : World) (hn' : n' = nn + 1) (hu : Up X 50 8 (.slice b n' c') n' (xcells P ++ xcell (t, .slice sa sn sc)) Y) => (HR.out.over hX).more HT.out HCO.out HSW.out hn' hu)
              have HPV : Hid (∀ X : World, Below wr.heap.size wr X → ToksPv P (.slice bn nn cn) X) := Lib.hid (fun X hX => by obtain ⟨ls, cs, -, hN, -⟩ := (HR.out.over hX).st; exact hN.now)
              have hnn : nn ≤ 300000 := by obtain ⟨ls, cs, -, -, -, -, -, h3⟩ := HR.out.st; omega
              rw [hbo] at HO HOC HOK
              rw [hbc] at HC HOC HKC HCO
              rw [hbk] at HK HKC HOK HCO
              obtain ⟨bd, hbd⟩ : ∃ b, ((d : Int) == 0) = b := ⟨_, rfl⟩
              have hbd2 : bd = decide (d = 0) := by rw [← hbd]; simp [Bool.beq_eq_decide_eq]
              have HW : Hid ((bd = true ∧ bk = false ∧ bc = false ∧ bo = true) ∨ (bd = true ∧ bk = false ∧ bc = false ∧ bo = false) ∨ (bd = false ∧ bc = false ∧ bo = true) ∨ (bd = false ∧ bc = true ∧ bo = false) ∨ (bd = false ∧ bc = false ∧ bo = false)) := Lib.hid (by
                have h1 := HCO.out
                have h2 := HOC.out
                by_cases e : d = 0
                · obtain ⟨rfl, rfl⟩ := h1 e
                  cases bo <;> simp [hbd2, e]
                · cases bo <;> cases bc <;> simp_all)
              have HDB : Hid (bd = false → 1 ≤ d) := Lib.hid fun e => by rw [hbd2, decide_eq_false_iff_not] at e; omega
              clear hbo hbc hbk HOC HOK HKC HCO hbd2
              rcases HW.out with ⟨rfl, rfl, rfl, rfl⟩ | ⟨rfl, rfl, rfl, rfl⟩ | ⟨rfl, rfl, rfl⟩ | ⟨rfl, rfl, rfl⟩ | ⟨rfl, rfl, rfl⟩
              all_goals clear HW
              all_goals (
                go_wp2_with (first
                  | (go_at_call 30; (first | (with_reducible refine (HC.out _).mono ?_) | (with_reducible refine (HK.out _).mono ?_) | (with_reducible refine (HO.out _).mono ?_)); rintro e wq ⟨rfl, hbq⟩; have HXn := Lib.hid (HX.out.next hbq); clear HX hbq y0 y1 y2 y3 y4 y5 y6 y7; have HX := HXn; clear HXn; obtain ⟨⟨y0, y1, y2, y3, y4, y5, y6, y7⟩, -⟩ := HX.out))
                have HBQ := Lib.hid HX.out.2.2
                have HGL := Lib.hid HX.out.2.1
                have HY := Lib.hid HX.out
                have HSR : Hid (∀ X : World, Below wq.heap.size wq X → Src X (.slice bn nn cn) nn 8 (xcells P)) := Lib.hid (fun X hX => (HPV.out X (below_up HBQ.out hX)).src)
                have HO1 : Hid (∀ u ∈ xcells P, u.oneCell' = true) := Lib.hid (xcells_oneP (HPV.out _ HBQ.out))
                have HO2 : Hid (∀ u ∈ xcell (t, .slice sa sn sc), u.oneCell' = true) := Lib.hid (xcell_one (p := (t, .slice sa sn sc)) rfl)
                have hg1 := HX.out.2.1
                go_region_held3 (fun w' => w'.cell? ⟨g, o + i * 8, none⟩ = some (.int .i64 t.k) ∧ w'.cell? ⟨g, o + i * 8 + 1, none⟩ = some (.string t.x) ∧ w'.cell? ⟨g, o + i * 8 + 2, none⟩ = some (.bool t.sp) ∧ w'.cell? ⟨g, o + i * 8 + 3, none⟩ = some (.string t.g) ∧ w'.cell? ⟨g, o + i * 8 + 4, none⟩ = some (.int .i64 t.f) ∧ w'.cell? ⟨g, o + i * 8 + 5, none⟩ = some (.int .i64 t.t) ∧ w'.cell? ⟨g, o + i * 8 + 6, none⟩ = some (.bool t.d) ∧ w'.cell? ⟨g, o + i * 8 + 7, none⟩ = some (.slice sa sn sc))
                  (first | go_keep)
                  (first
                    | (refine step_tok rfl (.tmp 81) (.tmp 82) rfl wq (.slice (some ⟨wq.heap.size, 0, none⟩) 0 0) (.slice bn nn cn) 0 nn [] (xcells P) rfl rfl ?_ (HSR.out _) HO1.out (by omega) ?_
                       · (repeat first | (with_reducible exact up_empty wq 50 8) | (with_reducible apply Up.drewA) | (with_reducible apply Up.alloc)); done
                       intro v1 w2 hu1 hg2
                       have HCC : Hid (w2.heap[wq.heap.size + 1]? = some (tokObj (t, .slice sa sn sc))) := ?_
                       rotate_left
                       · refine Lib.hid ((hg2.block _ ?_ ?_).trans ?_)
                         · first | (simp; done) | (simp; omega)
                         · simp [Value.ownBlock]
                         · (repeat (with_reducible apply blk_drew)); exact blk_new2 wq _ _
                       obtain ⟨y0, y1, y2, y3, y4, y5, y6, y7⟩ := HY.out.1.next hu1.2 HY.out.2.1
                       have hg2 : g < w2.heap.size := Nat.lt_of_lt_of_le HY.out.2.1 hu1.2.size
                       have U1 := Lib.hid hu1
                       clear hu1)
                    | (refine step_tok rfl (.tmp 81) (.tmp 82) rfl wq (.slice (some ⟨wq.heap.size, 0, none⟩) 0 0) (.slice bn nn cn) 0 nn [] (xcells P) rfl rfl ?_ (HSR.out _) HO1.out (by omega) ?_
                       · (repeat first | (with_reducible exact up_empty wq 50 8) | (with_reducible apply Up.drewA) | (with_reducible apply Up.alloc)); done
                       intro v1 w2 hu1 hg2
                       obtain ⟨y0, y1, y2, y3, y4, y5, y6, y7⟩ := HY.out.1.next hu1.2 HY.out.2.1
                       have hg2 : g < w2.heap.size := Nat.lt_of_lt_of_le HY.out.2.1 hu1.2.size
                       have U1 := Lib.hid hu1
                       clear hu1)
                    | (refine step_tok rfl (.tmp 83) (.tmp 88) rfl wq v1 (.slice (some ⟨wq.heap.size + 1, 0, none⟩) 1 1) (0 + nn) 1 ([] ++ xcells P) (xcell (t, .slice sa sn sc)) rfl rfl ?_ (fun _ => src_tok (p := (t, .slice sa sn sc)) (by (repeat (with_reducible apply blk_drew)); (with_reducible exact HCC.out))) HO2.out (by omega) ?_
                       · (repeat first | (with_reducible exact U1.out) | (with_reducible apply Up.drewA) | (with_reducible apply Up.alloc)); done
                       intro v2 w3 hu2 hg3
                       simp only [Nat.zero_add, List.nil_append] at hu2
                       obtain ⟨b5, c5, rfl⟩ := append_form hu2.1 (by omega)
                       obtain ⟨y0, y1, y2, y3, y4, y5, y6, y7⟩ := HY.out.1.next hu2.2 HY.out.2.1
                       have U2 := Lib.hid hu2
                       clear hu2 hg3)
                    | (refine step_tok rfl (.tmp 83) (.tmp 88) rfl wq v1 (.slice (some ⟨wq.heap.size, 0, none⟩) 1 1) (0 + nn) 1 ([] ++ xcells P) (xcell (t, .slice sa sn sc)) rfl rfl ?_ (fun _ => src_tok (p := (t, .slice sa sn sc)) (by (repeat (with_reducible apply blk_drew)); (with_reducible exact HCC.out))) HO2.out (by omega) ?_
                       · (repeat first | (with_reducible exact U1.out) | (with_reducible apply Up.drewA) | (with_reducible apply Up.alloc)); done
                       intro v2 w3 hu2 hg3
                       simp only [Nat.zero_add, List.nil_append] at hu2
                       obtain ⟨b5, c5, rfl⟩ := append_form hu2.1 (by omega)
                       obtain ⟨y0, y1, y2, y3, y4, y5, y6, y7⟩ := HY.out.1.next hu2.2 HY.out.2.1
                       have U2 := Lib.hid hu2
                       clear hu2 hg3)
                    | (refine step_tok rfl (.tmp 83) (.tmp 88) rfl wq v1 (.slice (some ⟨w2.heap.size, 0, none⟩) 1 1) (0 + nn) 1 ([] ++ xcells P) (xcell (t, .slice sa sn sc)) rfl rfl ?_ (fun _ => src_tok (p := (t, .slice sa sn sc)) (by (repeat (with_reducible apply blk_drew)); exact blk_new w2 _)) HO2.out (by omega) ?_
                       · (repeat first | (with_reducible exact U1.out) | (with_reducible apply Up.drewA) | (with_reducible apply Up.alloc)); done
                       intro v2 w3 hu2 hg3
                       simp only [Nat.zero_add, List.nil_append] at hu2
                       obtain ⟨b5, c5, rfl⟩ := append_form hu2.1 (by omega)
                       obtain ⟨y0, y1, y2, y3, y4, y5, y6, y7⟩ := HY.out.1.next hu2.2 HY.out.2.1
                       have U2 := Lib.hid hu2
                       clear hu2 hg3)
                    | (refine step_tok rfl (.tmp 81) (.tmp 82) rfl wq (.slice (some ⟨wq.heap.size + 1, 0, none⟩) 0 0) (.slice bn nn cn) 0 nn [] (xcells P) rfl rfl ?_ (HSR.out _) HO1.out (by omega) ?_
                       · (repeat first | (with_reducible exact up_empty2 wq _ 50 8) | (with_reducible apply Up.drewA) | (with_reducible apply Up.alloc)); done
                       intro v1 w2 hu1 hg2
                       have HCC : Hid (w2.heap[wq.heap.size]? = some (tokObj (t, .slice sa sn sc))) := ?_
                       rotate_left
                       · refine Lib.hid ((hg2.block _ ?_ ?_).trans ?_)
                         · first | (simp; done) | (simp; omega)
                         · simp [Value.ownBlock]
                         · (repeat (with_reducible apply blk_drew)); exact blk_new1 wq _ _
                       obtain ⟨y0, y1, y2, y3, y4, y5, y6, y7⟩ := HY.out.1.next hu1.2 HY.out.2.1
                       have hg2 : g < w2.heap.size := Nat.lt_of_lt_of_le HY.out.2.1 hu1.2.size
                       have U1 := Lib.hid hu1
                       clear hu1))
                all_goals clear y0 y1 y2 y3 y4 y5 y6 y7
                all_goals go_wp2
                all_goals go_roundw
                all_goals first
                  | exact rcrel_mk (d := deepN d t) (i := i + 1) (P := P ++ [(t, .slice sa sn sc)]) (by rw [HDN.out]; have hq := HDB.out; first | (simp; done) | (simp at hq; simp; omega)) (by go_num) (by omega) (by have := HN.out; omega) (by rw [HDN.out]; (try simp); omega) (HMO.out wq HBQ.out _ _ _ _ rfl U2.out)
                  | (simp [intOf]; omega))
        · have hltI : ¬ (i : Int) < (n : Int) := by omega
          have HEND : Hid (collectL T = none) := Lib.hid (by
            obtain ⟨ls, cs, -, -, hE, -⟩ := HR.out.st
            rw [hE, List.drop_of_length_le (by have := HN.out; omega)]
            rfl)
          have HBE : Hid (Below w.heap.size w wr) := Lib.hid (by obtain ⟨ls, cs, hC, -⟩ := HR.out.st; exact hC.bel)
          go_wp2
          rw [HEND.out]
          exact bodyPost_ret (v := .tuple #[.slice none 0 0, .slice none 0 0, .int .i64 0, .bool false]) (by simp [results, Try.results12, go_sem]) rfl ⟨rfl, HBE.out⟩

end Go.Proofs.Ytipipookgcdfbaa
