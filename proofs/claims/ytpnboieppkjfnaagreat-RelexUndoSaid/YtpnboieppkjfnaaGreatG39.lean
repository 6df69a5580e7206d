/-
  Texts of the proof, put together: ReH.
-/
import Derived.Test.YtpnboieppkjfnaaGreatG38
import Derived.Test.YtpnboieppkjfnaaGreatG20

/-
  keep, walked.
-/
namespace Go.Proofs.YtpnboieppkjfnaaGreat
open Go.RowKit

def KpRel (w : World) (R : List (Ln × List Dg)) (b : Nat) (dv all i : Value) (wr : World) : Prop :=
  ∃ (k : Nat) (K : List (Nat × Int)) (aa : Option Addr) (na ca : Nat), k ≤ R.length ∧ i = .int .i64 (k : Int) ∧ all = .slice aa na ca ∧ na = k ∧ K.length = k ∧ Up w 84 2 (.slice aa na ca) na (kcells K) wr ∧ KRead K ((R.take k).map (shRow b)) wr ∧ DV ((R.drop k).flatMap Prod.snd) dv w
def KpPost (w : World) (R : List (Ln × List Dg)) (e : Ending) (w' : World) : Prop :=
  ∃ (K : List (Nat × Int)) (a : Option Addr) (n cap : Nat), e = .returned (.slice a n cap) ∧ n = K.length ∧ Up w 84 2 (.slice a n cap) n (kcells K) w' ∧ KRead K R w'

/-- A box that holds a line. -/
def LBox (lb : Nat) (pv : Value) (l : Ln) (w : World) : Prop := w.heap[lb]? = some (.cells #[pv, .int .i64 (l.f : Int), .int .i64 (l.t : Int), .bool l.o] 87 (0, 0))
theorem LBox.next {lb : Nat} {pv : Value} {l : Ln} {w w' : World} (h : LBox lb pv l w) (b : Below w.heap.size w w') : LBox lb pv l w' := (b.block _ (row_lt h)).trans h
theorem LBox.cells {lb : Nat} {pv : Value} {l : Ln} {w : World} (h : LBox lb pv l w) : w.cell? ⟨lb, 0, none⟩ = some pv ∧ w.cell? ⟨lb, 1, none⟩ = some (.int .i64 (l.f : Int)) ∧ w.cell? ⟨lb, 2, none⟩ = some (.int .i64 (l.t : Int)) ∧ w.cell? ⟨lb, 3, none⟩ = some (.bool l.o) := by
  refine ⟨?_, ?_, ?_, ?_⟩ <;> (rw [Lib.cell_of_heap h]; rfl)



/-- What the great statement loads. -/
def LS (lb : Nat) (pv : Value) (l : Ln) (w : World) : Prop := w.cell? ⟨lb, 0, none⟩ = some pv ∧ w.cell? ⟨lb, 1, none⟩ = some (.int .i64 (l.f : Int)) ∧ w.cell? ⟨lb, 2, none⟩ = some (.int .i64 (l.t : Int)) ∧ w.cell? ⟨lb, 3, none⟩ = some (.bool l.o)
theorem LBox.oth {lb : Nat} {pv : Value} {l : Ln} {w w' : World} (h : LBox lb pv l w) (s : Oth 84 w w') : LBox lb pv l w' := s _ _ _ _ h (by decide)

theorem dcells_one {D : List Dg} : ∀ u ∈ dcells Efile D, u.oneCell' = true := by
  intro u hu
  unfold dcells at hu
  rw [List.mem_flatMap] at hu
  obtain ⟨d, -, hd⟩ := hu
  simp only [dcell, List.mem_cons, List.not_mem_nil, or_false] at hd
  rcases hd with rfl | rfl | rfl | rfl <;> rfl

/-- A line more is kept. -/
theorem keep_on {w wr w4 X w7 : World} {R : List (Ln × List Dg)} {b k na : Nat} {K : List (Nat × Int)} {x : Ln × List Dg} {tv dv dv2 : Value} {q b5 n5 c5 : Nat} {i : Int}
    (hx : R[k]? = some x) (hraw : Raw x) (hb : b ≤ 70000) (hKL : K.length = k) (hna : na = k) (hKR : KRead K ((R.take k).map (shRow b)) wr) (h4 : Below wr.heap.size wr w4) (hX : Below w4.heap.size w4 X)
    (hT : X.ownsRow 0 110 8 tv x.1.toks.length (tcells Efile x.1.toks)) (hq : X.heap[q]? = some (.cells #[tv, .int .i64 (x.1.f : Int), .int .i64 (x.1.t : Int), .bool x.1.o, dv] 113 (0, 0)))
    (hD : X.ownsRow 0 104 4 dv x.2.length (dcells Efile x.2)) (hA : KAdd w na (kcells K) (q, (b : Int)) X b5 n5 c5 w7) (hDV : DV ((R.drop (k + 1)).flatMap Prod.snd) dv2 w) (hi : i = ((k + 1 : Nat) : Int)) :
    KpRel w R b dv2 (.slice (some ⟨b5, 0, none⟩) n5 c5) (.int .i64 i) w7 := by
  obtain ⟨h1, h2, h3⟩ := hA
  have hlt : k < R.length := (List.getElem?_eq_some_iff.1 hx).1
  have hxr : shRow b x = (shLn b x.1, x.2.map (shDg b)) := rfl
  have hLn : LineAt X q (b : Int) (shRow b x) := by
    refine ⟨tv, dv, ?_, ?_, ?_⟩
    · rw [hxr]
      simp only
      rw [lineObj_sh]
      exact hq
    · rw [hxr]
      simp only [shLn, List.length_map]
      rw [tcellsB_sh]
      exact hT
    · rw [hxr]
      simp only [List.length_map]
      rw [dcellsB_sh]
      exact hD
  have hKX : KRead K ((R.take k).map (shRow b)) w7 := ((hKR.sm (Sm.below h4)).sm (Sm.below hX)).oth h3
  have htk : (R.take (k + 1)).map (shRow b) = (R.take k).map (shRow b) ++ [shRow b x] := by
    rw [List.take_add_one, hx]
    simp
  have hlk : ((R.take k).map (shRow b)).length = k := by rw [List.length_map, List.length_take]; omega
  refine ⟨k + 1, K ++ [(q, (b : Int))], _, n5, c5, hlt, by rw [hi], rfl, by omega, by rw [List.length_append, hKL]; rfl, ?_, ?_, hDV⟩
  · have e : kcells (K ++ [(q, (b : Int))]) = kcells K ++ kcell (q, (b : Int)) := by simp [kcells]
    rw [e]
    exact h2
  · rw [htk]
    refine ⟨by rw [List.length_append, List.length_append, hKX.1]; rfl, fun j kk y hkk hy => ?_⟩
    rcases Nat.lt_or_ge j k with hj | hj
    · rw [List.getElem?_append_left (by omega)] at hkk hy
      exact hKX.2 j kk y hkk hy
    · rw [List.getElem?_append_right (by omega)] at hkk hy
      rw [hKL] at hkk
      rw [hlk] at hy
      have hj0 : j - k = 0 := by
        rcases Nat.eq_zero_or_pos (j - k) with h | h
        · exact h
        · rw [List.getElem?_eq_none (by simp; omega)] at hkk
          cases hkk
      rw [hj0] at hkk hy
      simp only [List.getElem?_cons_zero, Option.some.injEq] at hkk hy
      subst hkk hy
      exact ⟨raw_small hraw hb, hLn.oth h3⟩

set_option maxRecDepth 100000 in
set_option maxHeartbeats 6400000 in
theorem keep_any {W w : World} {la : Option Addr} {ln lc : Nat} {da : Option Addr} {dn dc : Nat} {Ps : List (List UInt8)} (hl : LRow W Efile 87 (.slice la ln lc) ((rows 0 Ps).map Prod.fst) w) (hd : DRow W Efile (.slice da dn dc) ((rows 0 Ps).flatMap Prod.snd) w) (hp : Pcs Ps) (hlen : Ps.flatten.length ≤ 66000) (b : Nat) (hb : b ≤ 70000) :
    Calls Tryz.prog 72 #[.slice la ln lc, .slice da dn dc, .int .i64 (b : Int)] w (KpPost w (rows b Ps)) := by
  obtain ⟨P, hP, hU0, hT0⟩ := hl
  have hDV0 := DV.of hd
  obtain ⟨R, hR⟩ : ∃ R, rows 0 Ps = R := ⟨_, rfl⟩
  have hraw : ∀ i x, R[i]? = some x → Raw x ∧ x.1.t = pre Ps (i + 1) ∧ (∀ d ∈ x.2, d.f < x.1.t) := fun i x h => by
    rw [← hR] at h
    have h2 := row_at hp h
    exact ⟨rows_raw hp hlen h, h2.2.1, fun d hd => by rw [h2.2.1]; exact (h2.2.2 d hd).2⟩
  have hfar : ∀ k d, d ∈ (R.drop k).flatMap Prod.snd → pre Ps k ≤ d.f := fun k d h => rest_far hp (by rw [hR]; exact h)
  have hfew : R.length ≤ 70000 := by
    rw [← hR, rows_len]
    have := few_pieces hp
    omega
  have hres : rows b Ps = R.map (shRow b) := by rw [← hR, rows_sh, Nat.add_zero]
  rw [hR] at hP hDV0
  have hPl : P.length = R.length := by rw [← List.length_map (f := Prod.snd), hP, List.length_map]
  obtain ⟨la2, lc2, hlv, l1, l2, l3⟩ := row_form hU0.1
  simp only [Value.slice.injEq] at hlv
  obtain ⟨rfl, rfl, rfl⟩ := hlv
  unfold maxLen at l2
  have HC := Lib.hid l3
  have HP := Lib.hid hP
  have HT := Lib.hid hT0
  have HRAW := Lib.hid hraw
  have HFAR := Lib.hid hfar
  have HRES := Lib.hid hres
  have HPL := Lib.hid hPl
  have HS0 : Hid (KpRel w R b (.slice da dn dc) (.slice none 0 0) (.int .i64 0) w) := Lib.hid ⟨0, [], none, 0, 0, Nat.zero_le _, rfl, rfl, rfl, rfl, up_nil w _ 2, ⟨rfl, fun i k x h _ => by cases h⟩, hDV0⟩
  clear hU0 l3 hP hT0 hraw hfar hres hPl hDV0 hd hR hlen hp
  go_enter Tryz.func72, Tryz.ntmps72
  go_wp2
  go_loopw [1, 7, 15] (fun dv all i wr => KpRel w R b dv all i wr) (fun _ _ i _ => R.length - (intOf i).toNat)
  case atStart => exact HS0.out
  case round =>
    obtain ⟨wk, hwk⟩ : ∃ wk : World, wr = wk := ⟨_, rfl⟩
    rw [hwk] at hrel ⊢
    clear hwk wr
    obtain ⟨k, K, aa, na, ca, hk, rfl, rfl, hna, hKl, hU, hKR, hDV⟩ := hrel
    have hPL := HPL.out
    have HU := Lib.hid hU
    have HKR := Lib.hid hKR
    have HNA := Lib.hid hna
    have HKL := Lib.hid hKl
    have hna2 : na ≤ 70000 := by omega
    by_cases hlt : k < R.length
    · obtain ⟨x, hx⟩ : ∃ x, R[k]? = some x := ⟨_, List.getElem?_eq_getElem hlt⟩
      obtain ⟨p, hpk⟩ : ∃ p, P[k]? = some p := ⟨_, List.getElem?_eq_getElem (by omega)⟩
      have hpx : p.2 = x.1 := by
        have e : (P.map Prod.snd)[k]? = (R.map Prod.fst)[k]? := by rw [HP.out]
        rw [List.getElem?_map, List.getElem?_map, hpk, hx] at e
        exact Option.some.inj e
      obtain ⟨pv, pl⟩ := p
      simp only at hpx
      subst hpx
      obtain ⟨tg, hTup⟩ : ∃ tg : Nat, Up W 110 8 pv x.1.toks.length (tcells Efile x.1.toks) w := ⟨0, HT.out _ (List.mem_of_getElem? hpk)⟩
      have hg := fun j (hj : j < 4) => flat_get (f := lcell) (n := 4) (fun _ => rfl) P k _ hpk j hj
      obtain ⟨g, hga, hgl, d0⟩ := HC.out (k * 4 + 0) _ ((hg 0 (by omega)).trans rfl)
      obtain ⟨g1, hga1, -, d1⟩ := HC.out (k * 4 + 1) _ ((hg 1 (by omega)).trans rfl)
      obtain ⟨g2, hga2, -, d2⟩ := HC.out (k * 4 + 2) _ ((hg 2 (by omega)).trans rfl)
      obtain ⟨g3, hga3, -, d3⟩ := HC.out (k * 4 + 3) _ ((hg 3 (by omega)).trans rfl)
      subst hga
      simp only [Option.some.injEq, Addr.mk.injEq, and_true] at hga1 hga2 hga3
      subst hga1 hga2 hga3
      simp only at d0 d1 d2 d3
      obtain ⟨ta, tc, rfl, tt1, tt2, tt3⟩ := row_form hTup.1
      have e0 : wk.cell? ⟨g, k * 4, none⟩ = some (.slice ta x.1.toks.length tc) := bcell HU.out.2 d0 hgl
      have e1 : wk.cell? ⟨g, k * 4 + 1, none⟩ = some (.int .i64 (x.1.f : Int)) := bcell HU.out.2 d1 hgl
      have e2 : wk.cell? ⟨g, k * 4 + 2, none⟩ = some (.int .i64 (x.1.t : Int)) := bcell HU.out.2 d2 hgl
      have e3 : wk.cell? ⟨g, k * 4 + 3, none⟩ = some (.bool x.1.o) := bcell HU.out.2 d3 hgl
      have hki : (k : Int) < (P.length : Int) := by omega
      have hk0 : (0 : Int) ≤ (k : Int) := by omega
      unfold maxLen at tt2
      have htl := (HRAW.out k x hx).1.2.2.2.2.1
      have HTUP := Lib.hid hTup
      have HTC := Lib.hid tt3
      have HX := Lib.hid hx
      have HPK := Lib.hid hpk
      have hbe := HU.out.2
      rw [rest_split hx] at hDV
      obtain ⟨ad, cc, hdv, dd1, dd2, -, dd4, dd5⟩ := id hDV
      subst hdv
      have HDV := Lib.hid hDV
      have HDL : Hid ((x.2 ++ (R.drop (k + 1)).flatMap Prod.snd).length ≤ cc) := Lib.hid dd1
      have HD5 := Lib.hid dd5
      have HD4 := Lib.hid dd4
      have HBE := Lib.hid hbe
      obtain ⟨dl, hdl⟩ : ∃ dl, (x.2 ++ (R.drop (k + 1)).flatMap Prod.snd).length = dl := ⟨_, rfl⟩
      have HDLE := Lib.hid hdl
      rw [hdl] at dd1 HDV ⊢
      unfold maxLen at dd2
      clear hg d0 d1 d2 d3 hpk hx hTup tt3 hKR hU hDV hdl hKl hna dd4 dd5 hbe hPL
      go_wp2
      obtain ⟨wo, hwo⟩ : ∃ wo, wk.alloc (.cells #[.slice ta x.1.toks.length tc, .int .i64 (x.1.f : Int), .int .i64 (x.1.t : Int), .bool x.1.o] 87) = wo := ⟨_, rfl⟩
      have HLB0 : Hid (LBox wk.heap.size (.slice ta x.1.toks.length tc) x.1 wo) := Lib.hid (by rw [← hwo]; exact heap_alloc_new wk _)
      have HBO : Hid (Below wk.heap.size wk wo) := Lib.hid (by rw [← hwo]; exact (Below.refl _ _).alloc (Nat.le_refl _) _)
      rw [hwo]
      obtain ⟨lb, hlb⟩ : ∃ lb, wk.heap.size = lb := ⟨_, rfl⟩
      rw [hlb] at HLB0 ⊢
      clear hwo hlb e0 e1 e2 e3
      go_loopw [22] (fun i w2 => ∃ j : Nat, i = .int .i64 (j : Int) ∧ j ≤ x.1.toks.length ∧ Below wo.heap.size wo w2) (fun i _ => x.1.toks.length - (intOf i).toNat)
      case atStart => exact ⟨0, rfl, Nat.zero_le _, Below.refl _ _⟩
      case round =>
        obtain ⟨j, rfl, hj, hb2⟩ := hrel
        have HB2 := Lib.hid hb2
        have HBW : Hid (Below w.heap.size w wr) := Lib.hid (below_up (below_up HBE.out HBO.out) hb2)
        clear hb2
        by_cases hjl : j < x.1.toks.length
        · obtain ⟨t, ht⟩ : ∃ t, x.1.toks[j]? = some t := ⟨_, List.getElem?_eq_getElem hjl⟩
          obtain ⟨ta2, tc2, hta2, -, -, hat⟩ := toks_at HTUP.out.1
          simp only [Value.slice.injEq, true_and] at hta2
          obtain ⟨rfl, rfl⟩ := hta2
          obtain ⟨tg, rfl, htg, hk8⟩ := hat j t ht
          have hfz : ∀ k, w.frozen? ⟨tg, k, none⟩ = false := own_free HTUP.out.1
          have htx := ((HRAW.out k x HX.out).1.2.2.1 t (List.mem_of_getElem? ht)).2.2
          obtain ⟨c0, c1, c2, c3, c4, c5, c6, c7⟩ := hk8.next HBW.out htg
          obtain ⟨X, hX⟩ : ∃ X : ByteArray, (⟨t.x.toArray⟩ : ByteArray) = X := ⟨_, rfl⟩
          have hXs : X.size ≤ 1000000 := by rw [← hX]; show t.x.toArray.size ≤ _; simp; omega
          rw [hX] at c1
          have HLB := Lib.hid (HLB0.out.next HB2.out)
          have hjI : (j : Int) < (x.1.toks.length : Int) := by omega
          have hj0 : (0 : Int) ≤ (j : Int) := by omega
          have HFZ := Lib.hid hfz
          have HTG : Hid (tg < w.heap.size) := Lib.hid htg
          have HC1 := Lib.hid c1
          have HCL : Hid (∀ Y : World, Calls Tryz.prog 17 #[.string X] Y (fun e w' => e = .returned (.string X) ∧ Below Y.heap.size Y w')) := Lib.hid (fun Y => clone_is X Y hXs)
          clear hX hfz htg hk8 hat ht tt1
          go_wp2
          obtain ⟨w3, hw3⟩ : ∃ w3, wr.alloc (.cells #[.int .i64 (t.k : Int), .string X, .bool t.sp, .string Efile, .int .i64 (t.f : Int), .int .i64 (t.t : Int), .bool false, .slice none 0 0] 110) = w3 := ⟨_, rfl⟩
          have HB3 : Hid (Below wr.heap.size wr w3) := Lib.hid (by rw [← hw3]; exact (Below.refl _ _).alloc (Nat.le_refl _) _)
          have HTB : Hid (w3.heap[wr.heap.size]? = some (.cells #[.int .i64 (t.k : Int), .string X, .bool t.sp, .string Efile, .int .i64 (t.f : Int), .int .i64 (t.t : Int), .bool false, .slice none 0 0] 110 (0, 0))) := Lib.hid (by rw [← hw3]; exact heap_alloc_new wr _)
          rw [hw3]
          obtain ⟨tb, htb⟩ : ∃ tb, wr.heap.size = tb := ⟨_, rfl⟩
          rw [htb] at HTB ⊢
          have HTBE := Lib.hid htb
          clear hw3 htb c0 c1 c2 c3 c4 c5 c6 c7
          have HS0 : Hid (w3.drew.cell? ⟨lb, 0, none⟩ = some (.slice (some ⟨tg, 0, none⟩) x.1.toks.length tc) ∧ w3.drew.cell? ⟨tb, 1, none⟩ = some (.string X)) := Lib.hid ⟨by have h := (HLB.out.next HB3.out).cells.1; exact h, by show w3.cell? _ = _; rw [Lib.cell_of_heap HTB.out]; rfl⟩
          have HLL : Hid (lb < w3.drew.heap.size ∧ tb < w3.drew.heap.size) := Lib.hid (by have h1 := row_lt (HLB.out.next HB3.out); have h2 := row_lt HTB.out; exact ⟨h1, h2⟩)
          go_region_held3 (fun w' => w'.cell? ⟨lb, 0, none⟩ = some (.slice (some ⟨tg, 0, none⟩) x.1.toks.length tc) ∧ w'.cell? ⟨tb, 1, none⟩ = some (.string X))
            (first | exact HS0.out | exact HS1.out | (rw [setCell_id HK1.out]; exact HS1.out))
            (first | (go_at_call 17; (with_reducible refine (HCL.out _).mono ?_); rintro e w4 ⟨rfl, y4⟩; have HS1 : Hid (w4.cell? ⟨lb, 0, none⟩ = some (.slice (some ⟨tg, 0, none⟩) x.1.toks.length tc) ∧ w4.cell? ⟨tb, 1, none⟩ = some (.string X)) := Lib.hid ⟨bcell y4 HS0.out.1 HLL.out.1, bcell y4 HS0.out.2 HLL.out.2⟩; have HB4 : Hid (Below wr.heap.size wr w4) := Lib.hid (below_up HB3.out.drew y4); have k1 : w4.cell? ⟨tg, j * 8 + 1, none⟩ = some (.string X) := (bcell HB4.out HC1.out (Nat.lt_of_lt_of_le HTG.out HBW.out.size)); have HK1 := Lib.hid k1; have z1 : w4.frozen? ⟨tg, j * 8 + 1, none⟩ = false := ((below_up HBW.out HB4.out).frozen (p := ⟨tg, j * 8 + 1, none⟩) HTG.out).trans (HFZ.out _); clear y4))
          all_goals
            rw [setCell_id k1]
            go_wp2
            go_roundw
            case rel => exact ⟨j + 1, by go_num, hjl, below_up HB2.out HB4.out⟩
            case measure => simp [intOf]; omega
        · have hje : j = x.1.toks.length := by omega
          subst hje
          obtain ⟨w2, hw2⟩ : ∃ w2 : World, wr = w2 := ⟨_, rfl⟩
          rw [hw2] at HB2 HBW ⊢
          clear hw2 wr
          have HLB := Lib.hid (HLB0.out.next HB2.out)
          have HBK : Hid (Below wk.heap.size wk w2) := Lib.hid (below_up HBO.out HB2.out)
          go_wp2
          go_loopw [12] (fun n wr => ∃ j : Nat, n = .int .i64 (j : Int) ∧ j ≤ x.2.length ∧ Below w2.heap.size w2 wr) (fun n _ => x.2.length - (intOf n).toNat)
          case atStart => exact ⟨0, rfl, Nat.zero_le _, Below.refl _ _⟩
          case round =>
            obtain ⟨j, rfl, hj, hb3⟩ := hrel
            have HB3 := Lib.hid hb3
            have HB3W : Hid (Below w.heap.size w wr) := Lib.hid (below_up HBW.out hb3)
            have lc2 := (HLB.out.next hb3).cells.2.2.1
            have hdle := HDLE.out
            rw [List.length_append] at hdle
            clear hb3
            by_cases hjl : j < x.2.length
            · obtain ⟨d, hdj⟩ : ∃ d, x.2[j]? = some d := ⟨_, List.getElem?_eq_getElem hjl⟩
              obtain ⟨dg, dof, had, hdc⟩ := HD5.out (by intro e; rw [(List.append_eq_nil_iff.1 e).1] at hjl; simp at hjl)
              subst had
              have hdD : (x.2 ++ (R.drop (k + 1)).flatMap Prod.snd)[j]? = some d := by rw [List.getElem?_append_left hjl]; exact hdj
              have hd2 := hdc (j * 4 + 2) (.int .i64 (d.f : Int)) (((flat_get (f := dcell Efile) (n := 4) (fun _ => rfl) _ j d hdD 2 (by omega))).trans rfl)
              have hdl2 : j < dl := by omega
              have hdlI : (j : Int) < (dl : Int) := by omega
              have hj0 : (0 : Int) ≤ (j : Int) := by omega
              have hg1 : decide (j < dl) = true := decide_eq_true hdl2
              have hg2 : decide (d.f < x.1.t) = true := decide_eq_true ((HRAW.out k x HX.out).2.2 d (List.mem_of_getElem? hdj))
              have hgl2 : dg < w.heap.size := HD4.out _ rfl
              have k2 : wr.cell? ⟨dg, dof + j * 4 + 2, none⟩ = some (.int .i64 (d.f : Int)) := by
                rw [Nat.add_assoc]
                exact bcell HB3W.out hd2 hgl2
              clear hdc hd2 hdD hdj hdle hgl2 hdl2
              go_wp2
              go_quiet (fail)
              go_wp2
              go_roundw
              case rel => exact ⟨j + 1, by go_num, hjl, below_up HB3.out (Below.of_drews _ _)⟩
              case measure => simp [intOf]; omega
            · have hje : j = x.2.length := by omega
              subst hje
              have hcnt : x.2.length ≤ dl := by omega
              have hcnt2 := (HRAW.out k x HX.out).1.2.2.2.2.2
              have hdlI3 : (x.2.length : Int) ≤ (dl : Int) := by omega
              -- the test says no, whatever is left
              have hno : (decide (x.2.length < dl) = false) ∨ ∃ (dg dof : Nat) (d : Dg), ad = some ⟨dg, dof, none⟩ ∧ decide (x.2.length < dl) = true ∧ decide (d.f < x.1.t) = false ∧ wr.cell? ⟨dg, dof + x.2.length * 4 + 2, none⟩ = some (.int .i64 (d.f : Int)) := by
                by_cases hq : x.2.length < dl
                · right
                  obtain ⟨d, hd⟩ : ∃ d, ((R.drop (k + 1)).flatMap Prod.snd)[0]? = some d := ⟨_, List.getElem?_eq_getElem (by omega)⟩
                  have hdD : (x.2 ++ (R.drop (k + 1)).flatMap Prod.snd)[x.2.length]? = some d := by
                    rw [List.getElem?_append_right (Nat.le_refl _), Nat.sub_self]
                    exact hd
                  obtain ⟨dg, dof, had, hdc⟩ := HD5.out (by intro e; rw [(List.append_eq_nil_iff.1 e).2] at hd; cases hd)
                  have hd2 := hdc (x.2.length * 4 + 2) (.int .i64 (d.f : Int)) (((flat_get (f := dcell Efile) (n := 4) (fun _ => rfl) _ _ d hdD 2 (by omega))).trans rfl)
                  have hff := HFAR.out (k + 1) d (List.mem_of_getElem? hd)
                  refine ⟨dg, dof, d, had, decide_eq_true hq, decide_eq_false (by rw [(HRAW.out k x HX.out).2.1]; omega), ?_⟩
                  rw [Nat.add_assoc]
                  exact bcell HB3W.out hd2 (HD4.out _ had)
                · exact .inl (decide_eq_false hq)
              have hsl1 := sliceD_hi ad dl cc x.2.length hcnt dd1
              have hsl2 := sliceD_lo ad dl cc x.2.length hcnt dd1
              have HHEAD : Hid (Src w (.slice ad x.2.length cc) x.2.length 4 (dcells Efile x.2) ∧ ∀ a m c, Value.slice ad x.2.length cc = .slice (some a) m c → a.block < w.heap.size) := Lib.hid (by
                have h := HDV.out
                rw [← HDLE.out] at h
                have h2 := h.head (n := x.2.length) (by rw [List.length_append]; omega)
                rw [List.take_left'  rfl] at h2
                exact h2)
              have HTAIL : Hid (DV ((R.drop (k + 1)).flatMap Prod.snd) (.slice (if cc = x.2.length then ad else ad.map (·.add (x.2.length * 4))) (dl - x.2.length) (cc - x.2.length)) w) := Lib.hid (by
                have h := HDV.out
                rw [← HDLE.out] at h
                have h2 := h.tail (n := x.2.length) (by rw [List.length_append]; omega)
                rw [List.drop_left' rfl, HDLE.out] at h2
                exact h2)
              obtain ⟨ad2, had2⟩ : ∃ ad2, (if cc = x.2.length then ad else ad.map (·.add (x.2.length * 4))) = ad2 := ⟨_, rfl⟩
              rw [had2] at HTAIL hsl2
              have HSD : Hid (∀ Y : World, Below w.heap.size w Y → Calls Tryz.prog 94 #[.slice ad x.2.length cc] Y (NewRow Y 104 4 x.2.length (dcells Efile x.2))) := Lib.hid (fun Y hY => cloneD_any (HHEAD.out.1.below HHEAD.out.2 hY) (fun a m c e => Nat.lt_of_lt_of_le (HHEAD.out.2 a m c e) hY.size) dcells_one (by omega))
              have HB3K : Hid (Below wk.heap.size wk wr) := Lib.hid (below_up HBK.out HB3.out)
              have HLB3 := Lib.hid (HLB.out.next HB3.out)
              have hna500 : na ≤ 500000 := by omega
              have hbI : (b : Int) ≤ 70000 := by omega
              have HDR : Hid (∀ (n : Nat), LBox lb (.slice ta x.1.toks.length tc) x.1 (wr.drewN n) ∧ Below wk.heap.size wk (wr.drewN n)) := Lib.hid (fun n => ⟨HLB3.out.next (Below.of_drews _ _), below_up HB3K.out (Below.of_drews _ _)⟩)
              clear had2 hcnt2 hdle hjl
              rcases hno with hg1 | ⟨dg, dof, d, had, hg1, hg2, k2⟩
              · have hgI : ¬ (x.2.length : Int) < (dl : Int) := by have := of_decide_eq_false hg1; omega
                go_wp2
                go_quiet (fail)
                obtain ⟨w3, hw3⟩ : ∃ w3, wr.drewN nq = w3 := ⟨_, rfl⟩
                have HLB4 : Hid (LBox lb (.slice ta x.1.toks.length tc) x.1 w3) := Lib.hid (by rw [← hw3]; exact (HDR.out nq).1)
                have HB4 : Hid (Below wk.heap.size wk w3) := Lib.hid (by rw [← hw3]; exact (HDR.out nq).2)
                rw [hw3]
                clear hw3 lc2 hg1
                go_wp2
                have HS0 : Hid (LS lb (.slice ta x.1.toks.length tc) x.1 w3.drew) := Lib.hid (by have h := HLB4.out.cells; exact h)
                have HBD : Hid (Below w.heap.size w w3.drew) := Lib.hid (below_up HBE.out HB4.out).drew
                go_region_held3 (fun w' => w'.cell? ⟨lb, 0, none⟩ = some (.slice ta x.1.toks.length tc) ∧ w'.cell? ⟨lb, 1, none⟩ = some (.int .i64 (x.1.f : Int)) ∧ w'.cell? ⟨lb, 2, none⟩ = some (.int .i64 (x.1.t : Int)) ∧ w'.cell? ⟨lb, 3, none⟩ = some (.bool x.1.o))
                  (first | exact HS0.out | exact HS1.out | exact HS2.out _ | exact HS3.out _ _ | exact HS4.out)
                  (first
                    | (go_at_call 94; (with_reducible refine (HSD.out _ HBD.out).mono ?_); rintro e w4 ⟨a1, c1, rfl, hu4⟩; have HU4 := Lib.hid hu4; have HLB5 : Hid (LBox lb (.slice ta x.1.toks.length tc) x.1 w4) := Lib.hid (LBox.next (w := w3.drew) HLB4.out hu4.2); have HB5 : Hid (Below wk.heap.size wk w4) := Lib.hid (below_up HB4.out.drew hu4.2); have HS1 : Hid (LS lb (.slice ta x.1.toks.length tc) x.1 w4) := Lib.hid HLB5.out.cells; have HS2 : Hid (∀ o, LS lb (.slice ta x.1.toks.length tc) x.1 (w4.alloc o)) := Lib.hid (fun o => (HLB5.out.next ((Below.refl _ _).alloc (Nat.le_refl _) o)).cells); have HS3 : Hid (∀ o o', LS lb (.slice ta x.1.toks.length tc) x.1 ((w4.alloc o).alloc o')) := Lib.hid (fun o o' => ((HLB5.out.next ((Below.refl _ _).alloc (Nat.le_refl _) o)).next ((Below.refl _ _).alloc (Nat.le_refl _) o')).cells); clear hu4)
                    | (refine step_ex rfl (.tmp 53) (.tmp 63) 60 rfl _ _ _ rfl rfl (kadd_ex (W := w) (v := .slice aa na ca) (n := na) (xs := kcells K) (k := (w4.heap.size, (b : Int))) ?_ ?_ hna500) ?_
                       · (repeat first | (with_reducible apply Up.drew) | (with_reducible apply Up.alloc)); exact Up.over (Up.over HU.out HB4.out.drew) HU4.out.2
                       · exact src_row (heap_alloc_at (by simp)) rfl rfl
                       intro b5 n5 c5 w7 hp5
                       have HK5 := Lib.hid hp5
                       have HS4 : Hid (LS lb (.slice ta x.1.toks.length tc) x.1 w7) := Lib.hid ((((HLB5.out.next ((Below.refl _ _).alloc (Nat.le_refl _) _)).next ((Below.refl _ _).alloc (Nat.le_refl _) _)).oth hp5.2.2).cells)
                       clear hp5))
                have HON : Hid (∀ i, i = ((k + 1 : Nat) : Int) → KpRel w R b (.slice ad2 (dl - x.2.length) (cc - x.2.length)) (.slice (some ⟨b5, 0, none⟩) n5 c5) (.int .i64 i) w7) := Lib.hid (fun i hi => by
                  have hX : Below w4.heap.size w4 ((w4.alloc (.cells #[.slice ta x.1.toks.length tc, .int .i64 (x.1.f : Int), .int .i64 (x.1.t : Int), .bool x.1.o, .slice a1 x.2.length c1] 113)).alloc (.cells #[.pointer (some ⟨w4.heap.size, 0, none⟩), .int .i64 (b : Int)] 84)) := ((Below.refl _ _).alloc (Nat.le_refl _) _).alloc (by simp) _
                  refine keep_on HX.out (HRAW.out k x HX.out).1 hb HKL.out HNA.out HKR.out HB5.out hX (row_low (Up.over HTUP.out (below_up (below_up HBE.out HB5.out) hX)).1 (Nat.zero_le _)) ?_ (row_low (Up.over HU4.out hX).1 (Nat.zero_le _)) HK5.out HTAIL.out hi
                  exact (((Below.refl (w4.alloc (.cells #[.slice ta x.1.toks.length tc, .int .i64 (x.1.f : Int), .int .i64 (x.1.t : Int), .bool x.1.o, .slice a1 x.2.length c1] 113)).heap.size (w4.alloc (.cells #[.slice ta x.1.toks.length tc, .int .i64 (x.1.f : Int), .int .i64 (x.1.t : Int), .bool x.1.o, .slice a1 x.2.length c1] 113))).alloc (Nat.le_refl _) _).block _ (by simp)).trans (heap_alloc_new w4 _))
                go_wp2
                go_roundw
                case rel => exact HON.out _ (by simp)
                case measure => simp [intOf]; omega
              · subst had
                have hgI : (x.2.length : Int) < (dl : Int) := by have := of_decide_eq_true hg1; omega
                have hj0 : (0 : Int) ≤ (x.2.length : Int) := by omega
                go_wp2
                go_quiet (fail)
                obtain ⟨w3, hw3⟩ : ∃ w3, wr.drewN nq = w3 := ⟨_, rfl⟩
                have HLB4 : Hid (LBox lb (.slice ta x.1.toks.length tc) x.1 w3) := Lib.hid (by rw [← hw3]; exact (HDR.out nq).1)
                have HB4 : Hid (Below wk.heap.size wk w3) := Lib.hid (by rw [← hw3]; exact (HDR.out nq).2)
                rw [hw3]
                clear hw3 lc2 hg1 hg2 k2 hj0
                go_wp2
                have HS0 : Hid (LS lb (.slice ta x.1.toks.length tc) x.1 w3.drew) := Lib.hid (by have h := HLB4.out.cells; exact h)
                have HBD : Hid (Below w.heap.size w w3.drew) := Lib.hid (below_up HBE.out HB4.out).drew
                go_region_held3 (fun w' => w'.cell? ⟨lb, 0, none⟩ = some (.slice ta x.1.toks.length tc) ∧ w'.cell? ⟨lb, 1, none⟩ = some (.int .i64 (x.1.f : Int)) ∧ w'.cell? ⟨lb, 2, none⟩ = some (.int .i64 (x.1.t : Int)) ∧ w'.cell? ⟨lb, 3, none⟩ = some (.bool x.1.o))
                  (first | exact HS0.out | exact HS1.out | exact HS2.out _ | exact HS3.out _ _ | exact HS4.out)
                  (first
                    | (go_at_call 94; (with_reducible refine (HSD.out _ HBD.out).mono ?_); rintro e w4 ⟨a1, c1, rfl, hu4⟩; have HU4 := Lib.hid hu4; have HLB5 : Hid (LBox lb (.slice ta x.1.toks.length tc) x.1 w4) := Lib.hid (LBox.next (w := w3.drew) HLB4.out hu4.2); have HB5 : Hid (Below wk.heap.size wk w4) := Lib.hid (below_up HB4.out.drew hu4.2); have HS1 : Hid (LS lb (.slice ta x.1.toks.length tc) x.1 w4) := Lib.hid HLB5.out.cells; have HS2 : Hid (∀ o, LS lb (.slice ta x.1.toks.length tc) x.1 (w4.alloc o)) := Lib.hid (fun o => (HLB5.out.next ((Below.refl _ _).alloc (Nat.le_refl _) o)).cells); have HS3 : Hid (∀ o o', LS lb (.slice ta x.1.toks.length tc) x.1 ((w4.alloc o).alloc o')) := Lib.hid (fun o o' => ((HLB5.out.next ((Below.refl _ _).alloc (Nat.le_refl _) o)).next ((Below.refl _ _).alloc (Nat.le_refl _) o')).cells); clear hu4)
                    | (refine step_ex rfl (.tmp 53) (.tmp 63) 60 rfl _ _ _ rfl rfl (kadd_ex (W := w) (v := .slice aa na ca) (n := na) (xs := kcells K) (k := (w4.heap.size, (b : Int))) ?_ ?_ hna500) ?_
                       · (repeat first | (with_reducible apply Up.drew) | (with_reducible apply Up.alloc)); exact Up.over (Up.over HU.out HB4.out.drew) HU4.out.2
                       · exact src_row (heap_alloc_at (by simp)) rfl rfl
                       intro b5 n5 c5 w7 hp5
                       have HK5 := Lib.hid hp5
                       have HS4 : Hid (LS lb (.slice ta x.1.toks.length tc) x.1 w7) := Lib.hid ((((HLB5.out.next ((Below.refl _ _).alloc (Nat.le_refl _) _)).next ((Below.refl _ _).alloc (Nat.le_refl _) _)).oth hp5.2.2).cells)
                       clear hp5))
                have HON : Hid (∀ i, i = ((k + 1 : Nat) : Int) → KpRel w R b (.slice ad2 (dl - x.2.length) (cc - x.2.length)) (.slice (some ⟨b5, 0, none⟩) n5 c5) (.int .i64 i) w7) := Lib.hid (fun i hi => by
                  have hX : Below w4.heap.size w4 ((w4.alloc (.cells #[.slice ta x.1.toks.length tc, .int .i64 (x.1.f : Int), .int .i64 (x.1.t : Int), .bool x.1.o, .slice a1 x.2.length c1] 113)).alloc (.cells #[.pointer (some ⟨w4.heap.size, 0, none⟩), .int .i64 (b : Int)] 84)) := ((Below.refl _ _).alloc (Nat.le_refl _) _).alloc (by simp) _
                  refine keep_on HX.out (HRAW.out k x HX.out).1 hb HKL.out HNA.out HKR.out HB5.out hX (row_low (Up.over HTUP.out (below_up (below_up HBE.out HB5.out) hX)).1 (Nat.zero_le _)) ?_ (row_low (Up.over HU4.out hX).1 (Nat.zero_le _)) HK5.out HTAIL.out hi
                  exact (((Below.refl (w4.alloc (.cells #[.slice ta x.1.toks.length tc, .int .i64 (x.1.f : Int), .int .i64 (x.1.t : Int), .bool x.1.o, .slice a1 x.2.length c1] 113)).heap.size (w4.alloc (.cells #[.slice ta x.1.toks.length tc, .int .i64 (x.1.f : Int), .int .i64 (x.1.t : Int), .bool x.1.o, .slice a1 x.2.length c1] 113))).alloc (Nat.le_refl _) _).block _ (by simp)).trans (heap_alloc_new w4 _))
                go_wp2
                go_roundw
                case rel => exact HON.out _ (by simp)
                case measure => simp [intOf]; omega
    · have hke : k = R.length := by omega
      have hki : ¬ (k : Int) < (P.length : Int) := by omega
      obtain ⟨ad, cc, hdv, -⟩ := hDV
      subst hdv
      have HF : Hid (KpPost w (rows b Ps) (.returned (.slice aa na ca)) wk) := Lib.hid ⟨K, aa, na, ca, rfl, by omega, HU.out, by
        have h := hKR
        rw [hke, List.take_length, ← HRES.out] at h
        exact h⟩
      clear hU hKR hKl hna
      go_wp2
      go_ret
      exact HF.out

end Go.Proofs.YtpnboieppkjfnaaGreat
