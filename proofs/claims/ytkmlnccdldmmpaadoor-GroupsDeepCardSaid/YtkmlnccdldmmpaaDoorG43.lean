/-
  Texts of the proof, put together: GrLines, DkAwake.
-/
import Derived.Test.YtkmlnccdldmmpaaDoorG15
import Derived.Test.YtkmlnccdldmmpaaDoorG36
import Derived.Deep.RegionLaw
import Derived.Test.YtkmlnccdldmmpaaDoorG37

/-
  lines of the law: a text's lines as the program's.
-/
namespace Go.Proofs.YtkmlnccdldmmpaaDoor
open Go.RowKit

theorem Tryd.infoLLine : (Tryd.prog.info? 61).map (fun i => (i.zero, i.size, i.bytes)) = some (some (.agg #[.slice none 0 0, .int .i64 0, .int .i64 0, .bool false]), 4, 48) := by kernel_rfl

theorem li_ex {W w : World} {v sv : Value} {n : Nat} {xs : List Value} {ty : TypeId} {p : Value × Ln} (h : Up W 61 4 v n xs w) (hs : Src w sv 1 4 (lcell p)) (hp : p.1.oneCell' = true) (hn : n ≤ 500000) :
    ∃ b n' cap w', (Builtin.append_ #[45, 45] ty #[v, sv]).run Tryd.prog w = .ok (.slice (some ⟨b, 0, none⟩) n' cap) w' ∧ n' = n + 1 ∧ Up W 61 4 (.slice (some ⟨b, 0, none⟩) n' cap) n' (xs ++ lcell p) w' := by
  obtain ⟨i0, hi, hz0, hz1, hz2⟩ := info_parts Tryd.infoLLine
  obtain ⟨v', w', hr, h2⟩ := app_up (ty := ty) Tryd.underlying45 hi hz0 hz1 hz2 rfl (by decide) (by decide) h hs (by intro u hu; simp only [lcell, List.mem_cons, List.not_mem_nil, or_false] at hu; rcases hu with rfl | rfl | rfl | rfl <;> first | exact hp | rfl) (by omega)
  obtain ⟨b, cap, hv⟩ := append_form h2.1 (by omega)
  subst hv
  exact ⟨b, _, cap, w', hr, rfl, h2⟩

theorem Up.drewL {W w : World} {e : TypeId} {size : Nat} {v : Value} {n : Nat} {xs : List Value} (h : Up W e size v n xs w) : Up W e size v n xs w.drew := Up.over h (Below.refl _ _).drew

def LiRel (w : World) (P : List (Value × Ln)) (o i : Value) (wr : World) : Prop :=
  ∃ (k : Nat) (ob : Option Addr) (on oc : Nat), i = .int .i64 (k : Int) ∧ k ≤ P.length ∧ o = .slice ob on oc ∧ on = k ∧ Up w 61 4 (.slice ob on oc) on (lcells (P.take k)) wr
/-- Lines, new, as the program's. -/
def LiPost (W : World) (lines : List Ln) (e : Ending) (w' : World) : Prop :=
  ∃ (a : Option Addr) (n cap : Nat), e = .returned (.slice a n cap) ∧ n = lines.length ∧ LRow W ⟨#[102]⟩ 61 (.slice a n cap) lines w'

theorem take_getL {P : List (Value × Ln)} {k : Nat} {p : Value × Ln} (h : P[k]? = some p) : P.take (k + 1) = P.take k ++ [p] := by
  rw [List.take_add_one, h]
  rfl

theorem li_on {w wr : World} {P : List (Value × Ln)} {k b n cap : Nat} {p : Value × Ln} {i : Int} (hp : P[k]? = some p) (hn : n = k + 1) (h : Up w 61 4 (.slice (some ⟨b, 0, none⟩) n cap) n (lcells (P.take k) ++ lcell p) wr) (hi : i = ((k + 1 : Nat) : Int)) : LiRel w P (.slice (some ⟨b, 0, none⟩) n cap) (.int .i64 i) wr := by
  subst hi
  exact ⟨k + 1, _, n, cap, rfl, (List.getElem?_eq_some_iff.1 hp).1, rfl, hn, by rw [take_getL hp, lcells_snoc]; exact h⟩

theorem li_done {W w wr : World} {T : TypeId} {la : Option Addr} {ln lc : Nat} {P : List (Value × Ln)} {lines : List Ln} (hP : P.map Prod.snd = lines) (h1 : Up W T 4 (.slice la ln lc) P.length (lcells P) w) (h2 : ∀ p ∈ P, Up W 36 8 p.1 p.2.toks.length (tcells ⟨#[102]⟩ p.2.toks) w)
    {ob : Option Addr} {on oc : Nat} (hon : on = P.length) (hU : Up w 61 4 (.slice ob on oc) on (lcells P) wr) : LiPost W lines (.returned (.slice ob on oc)) wr := by
  refine ⟨ob, on, oc, rfl, by rw [hon, ← hP, List.length_map], P, hP, ⟨row_low (hon ▸ hU.1) h1.2.size, below_up h1.2 hU.2⟩, fun p hp => Up.over (h2 p hp) hU.2⟩

theorem run_few (L : List Rn) (sz : Nat) : ∀ (m i : Nat) (a : Acc), (runA L sz m i a).lines.length ≤ a.lines.length + m
  | 0, i, a => Nat.le_refl _
  | m + 1, i, a => by
    unfold runA
    split
    · have h := run_few L sz m (i + lenA L i (item ((bytesOf L).drop i))) (stepA L sz i a (item ((bytesOf L).drop i)))
      have hs : (stepA L sz i a (item ((bytesOf L).drop i))).lines.length ≤ a.lines.length + 1 := by
        cases item ((bytesOf L).drop i) with
        | nl => simp [stepA, endA]
        | gap n => simp [stepA]
        | opn => simp [stepA, endA, tellA]
        | tk k n =>
          have e : (takeA L a k i n).lines = a.lines := by
            unfold takeA pushA
            split <;> rfl
          simp [stepA, e]
      omega
    · omega

set_option maxRecDepth 100000 in
set_option maxHeartbeats 6400000 in
theorem lines8_any (s : ByteArray) (W : World) (hs : s.size ≤ 100000) : Calls Tryd.prog 24 #[.string s] W (LiPost W (linesA (charsL s.data.toList) s.size).lines) := by
  have HL := Lib.hid (rlines_any ⟨#[102]⟩ s W hs)
  have hfew : (linesA (charsL s.data.toList) s.size).lines.length ≤ 500000 := by
    obtain ⟨n, hn, hn2⟩ := charsL_few s.data.toList
    rw [len_byte] at hn2
    have := run_few (charsL s.data.toList) s.size (charsL s.data.toList).length 0 acc0
    unfold linesA
    have e : acc0.lines.length = 0 := rfl
    omega
  obtain ⟨A, hA⟩ : ∃ A, linesA (charsL s.data.toList) s.size = A := ⟨_, rfl⟩
  rw [hA] at HL hfew ⊢
  clear hA hs
  go_enter Tryd.func24, Tryd.ntmps24
  go_wp2_with (go_at_call 22; (with_reducible refine HL.out.mono ?_); rintro e w ⟨la, n0, lc, da, m, dc, rfl, hn0, -, ⟨P, hPm, h1, h2⟩, -⟩; (have hPl : P.length = n0 := (by rw [hn0, ← hPm, List.length_map])); obtain rfl := hPl; have HPM := Lib.hid hPm; have H1 := Lib.hid h1; have H2 := Lib.hid h2; (have hl : P.length ≤ 500000 := (by rw [hn0]; exact hfew)); clear hn0 hPm h1 h2)
  obtain ⟨a, cap, hv, hc1, hc2, hcell⟩ := row_form H1.out.1
  simp only [Value.slice.injEq, true_and] at hv
  obtain ⟨rfl, rfl⟩ := hv
  have hP : ∀ p ∈ P, ∃ ta tn tc, p.1 = .slice ta tn tc := fun p hp => by
    obtain ⟨ta, tc, hv, -⟩ := row_form (H2.out p hp).1
    exact ⟨ta, _, tc, hv⟩
  have HC := Lib.hid hcell
  have HP := Lib.hid hP
  unfold maxLen at hc2
  have HS0 : Hid (LiRel w P (.slice none 0 0) (.int .i64 0) w) := Lib.hid ⟨0, none, 0, 0, rfl, Nat.zero_le _, rfl, rfl, up_nil w _ 4⟩
  clear hcell hP hfew
  go_loopw [5, 6] (fun o i wr => LiRel w P o i wr) (fun _ i _ => P.length - (intOf i).toNat)
  case atStart => exact HS0.out
  case round =>
    obtain ⟨k, ob, on, oc, rfl, hk, rfl, hon, hU⟩ := hrel
    have HU := Lib.hid hU
    have HON := Lib.hid hon
    have hon2 : on ≤ 500000 := by omega
    clear hU hon
    by_cases hlt : k < P.length
    · obtain ⟨⟨pv, ln⟩, hp⟩ : ∃ p, P[k]? = some p := ⟨_, List.getElem?_eq_getElem hlt⟩
      obtain ⟨ta, tn, tc, hpv⟩ := HP.out _ (List.mem_of_getElem? hp)
      simp only at hpv
      subst hpv
      have hg := fun j (hj : j < 4) => flat_get (f := lcell) (n := 4) (fun _ => rfl) P k _ hp j hj
      obtain ⟨g, hga, hgl, d0⟩ := HC.out (k * 4 + 0) _ ((hg 0 (by omega)).trans rfl)
      obtain ⟨g1, hga1, -, d1⟩ := HC.out (k * 4 + 1) _ ((hg 1 (by omega)).trans rfl)
      obtain ⟨g2, hga2, -, d2⟩ := HC.out (k * 4 + 2) _ ((hg 2 (by omega)).trans rfl)
      obtain ⟨g3, hga3, -, d3⟩ := HC.out (k * 4 + 3) _ ((hg 3 (by omega)).trans rfl)
      subst hga
      simp only [Option.some.injEq, Addr.mk.injEq, and_true] at hga1 hga2 hga3
      subst hga1 hga2 hga3
      have e0 : wr.cell? ⟨g, k * 4, none⟩ = some (.slice ta tn tc) := bcell HU.out.2 d0 hgl
      have e1 : wr.cell? ⟨g, k * 4 + 1, none⟩ = some (.int .i64 (ln.f : Int)) := bcell HU.out.2 d1 hgl
      have e2 : wr.cell? ⟨g, k * 4 + 2, none⟩ = some (.int .i64 (ln.t : Int)) := bcell HU.out.2 d2 hgl
      have e3 : wr.cell? ⟨g, k * 4 + 3, none⟩ = some (.bool ln.o) := bcell HU.out.2 d3 hgl
      have hki : (k : Int) < (P.length : Int) := by omega
      have hk0 : (0 : Int) ≤ (k : Int) := by omega
      have HPK := Lib.hid hp
      clear hg d0 d1 d2 d3 hp
      go_wp2
      go_region_law (first
        | (refine step_ex rfl (.tmp 18) (.tmp 40) 45 rfl _ _ _ rfl rfl (li_ex (W := w) (v := .slice ob on oc) (n := on) (xs := lcells (P.take k)) (p := (.slice ta tn tc, ln)) ?_ ?_ rfl hon2) ?_
           · (repeat first | (with_reducible apply Up.drewL) | (with_reducible apply Up.alloc)); (with_reducible exact HU.out)
           · exact src_row (heap_drew (heap_alloc_new _ _)) rfl rfl
           intro b4 n4 cap4 w4 hp4
           have HP4 := Lib.hid hp4.2
           have HN4 := Lib.hid hp4.1
           clear hp4))
      all_goals go_wp2
      all_goals go_roundw
      all_goals first
        | exact li_on HPK.out (by rw [HN4.out, HON.out]) HP4.out (by simp)
        | (simp [intOf]; omega)
    · have hki : ¬ (k : Int) < (P.length : Int) := by omega
      go_wp2
      go_ret
      have hU := HU.out
      rw [List.take_of_length_le (by omega)] at hU
      exact li_done HPM.out H1.out H2.out (by have := HON.out; omega) hU

end Go.Proofs.YtkmlnccdldmmpaaDoor

/-
  What the document fixes.
-/
namespace Go.Proofs.YtkmlnccdldmmpaaDoor
open Go.RowKit

def awX (k : Nat) (x : ByteArray) (sp : Bool) (f t : Nat) : Xt := ⟨(k : Int), x, sp, fB, (f : Int), (t : Int), false, []⟩
theorem awd_one : lexT ⟨#[35, 32, 100, 101, 102, 105, 110, 101, 32, 65]⟩ = [awX 5 ⟨#[35]⟩ false 0 1, awX 1 ⟨#[100, 101, 102, 105, 110, 101]⟩ true 2 8, awX 1 ⟨#[65]⟩ true 9 10] := by rfl
theorem awd_two : lexT ⟨#[37, 58]⟩ = [awX 5 ⟨#[37, 58]⟩ false 0 2] := by rfl
theorem awd_three : lexT ⟨#[35, 120]⟩ = [awX 5 ⟨#[35]⟩ false 0 1, awX 1 ⟨#[120]⟩ false 1 2] := by rfl
theorem hash_is {t : Xt} {b : Bool} (h : (decide (t.k = 5) && (t.x.data.toList == [35] || t.x.data.toList == [37, 58])) = b) : hashX t = b := by
  unfold hashX
  rw [ByteArray.toList_eq]
  exact h
theorem awd_k1 : kindL [awX 5 ⟨#[35]⟩ false 0 1, awX 1 ⟨#[100, 101, 102, 105, 110, 101]⟩ true 2 8, awX 1 ⟨#[65]⟩ true 9 10] = 9 := by
  rw [kind_two (hash_is (by decide)), if_pos (by decide)]
  decide
theorem awd_k2 : kindL [awX 5 ⟨#[37, 58]⟩ false 0 2] = 1 := kind_one (hash_is (by decide))
theorem awd_k3 : kindL [awX 5 ⟨#[35]⟩ false 0 1, awX 1 ⟨#[120]⟩ false 1 2] = 14 := by
  rw [kind_two (hash_is (by decide)), if_pos (by decide)]
  decide

set_option maxRecDepth 100000 in
set_option maxHeartbeats 6400000 in
theorem awake7_any {W : World} (hW : WordsAt 0 W) (h0 : 0 < W.heap.size) : Calls Tryd.prog 11 #[] W (TruePost W) := by
  have T1 : Hid (∀ X : World, Calls Tryd.prog 20 #[.string ⟨#[35, 32, 100, 101, 102, 105, 110, 101, 32, 65]⟩] X (ToksNew X [awX 5 ⟨#[35]⟩ false 0 1, awX 1 ⟨#[100, 101, 102, 105, 110, 101]⟩ true 2 8, awX 1 ⟨#[65]⟩ true 9 10])) := Lib.hid (fun X => awd_one ▸ lexed_any _ X (by decide))
  have T2 : Hid (∀ X : World, Calls Tryd.prog 20 #[.string ⟨#[37, 58]⟩] X (ToksNew X [awX 5 ⟨#[37, 58]⟩ false 0 2])) := Lib.hid (fun X => awd_two ▸ lexed_any _ X (by decide))
  have T3 : Hid (∀ X : World, Calls Tryd.prog 20 #[.string ⟨#[35, 120]⟩] X (ToksNew X [awX 5 ⟨#[35]⟩ false 0 1, awX 1 ⟨#[120]⟩ false 1 2])) := Lib.hid (fun X => awd_three ▸ lexed_any _ X (by decide))
  have K1 : Hid (∀ (X : World) (v : Value), ToksX [awX 5 ⟨#[35]⟩ false 0 1, awX 1 ⟨#[100, 101, 102, 105, 110, 101]⟩ true 2 8, awX 1 ⟨#[65]⟩ true 9 10] v X → Below W.heap.size W X → Calls Tryd.prog 12 #[v] X (IntNew 9 X)) := Lib.hid (fun X v h b => by
    have := kind_any h (hW.next b h0) (Nat.lt_of_lt_of_le h0 b.size)
    rw [awd_k1] at this
    exact this)
  have K0 : Hid (∀ X : World, Below W.heap.size W X → Calls Tryd.prog 12 #[.slice none 0 0] X (IntNew 0 X)) := Lib.hid (fun X b => kind_any (toksX_nil X) (hW.next b h0) (Nat.lt_of_lt_of_le h0 b.size))
  have K2 : Hid (∀ (X : World) (v : Value), ToksX [awX 5 ⟨#[37, 58]⟩ false 0 2] v X → Below W.heap.size W X → Calls Tryd.prog 12 #[v] X (IntNew 1 X)) := Lib.hid (fun X v h b => by
    have := kind_any h (hW.next b h0) (Nat.lt_of_lt_of_le h0 b.size)
    rw [awd_k2] at this
    exact this)
  have K3 : Hid (∀ (X : World) (v : Value), ToksX [awX 5 ⟨#[35]⟩ false 0 1, awX 1 ⟨#[120]⟩ false 1 2] v X → Below W.heap.size W X → Calls Tryd.prog 12 #[v] X (IntNew 14 X)) := Lib.hid (fun X v h b => by
    have := kind_any h (hW.next b h0) (Nat.lt_of_lt_of_le h0 b.size)
    rw [awd_k3] at this
    exact this)
  have R1 : Hid (∀ (X : World) (v : Value), ToksX [awX 5 ⟨#[35]⟩ false 0 1, awX 1 ⟨#[100, 101, 102, 105, 110, 101]⟩ true 2 8, awX 1 ⟨#[65]⟩ true 9 10] v X → Below W.heap.size W X → Calls Tryd.prog 15 #[v] X (ToksNew X [awX 1 ⟨#[65]⟩ true 9 10])) := Lib.hid (fun X v h b => by
    have := rest_any h (hW.next b h0) (Nat.lt_of_lt_of_le h0 b.size) (by decide) (by decide)
    rw [rest_high (by rw [awd_k1]; decide)] at this
    exact this)
  have W5 : Hid (∀ X : World, Below W.heap.size W X → Calls Tryd.prog 17 #[.int .i64 5] X (StrNew ⟨#[101, 108, 105, 102]⟩ X)) := Lib.hid (fun X b => word_any 5 (hW.next b h0))
  have W9 : Hid (∀ X : World, Below W.heap.size W X → Calls Tryd.prog 17 #[.int .i64 99] X (StrNew ⟨#[]⟩ X)) := Lib.hid (fun X b => word_any 99 (hW.next b h0))
  have E5 : ((⟨#[101, 108, 105, 102]⟩ : ByteArray).toList == (⟨#[101, 108, 105, 102]⟩ : ByteArray).toList) = true := by simp
  clear hW
  go_enter Tryd.func11, Tryd.ntmps11
  go_wp2_with (first
    | (go_at_call 20; first
        | ((with_reducible refine (T1.out _).mono ?_); rintro e w1 ⟨a1, n1, c1, rfl, hn, hx, hb⟩; have HX1 := Lib.hid hx; have HB1 := Lib.hid hb; clear hx hb hn)
        | ((with_reducible refine (T2.out _).mono ?_); rintro e w5 ⟨a5, n5, c5, rfl, hn, hx, hb⟩; have HX5 := Lib.hid hx; have HB5 := Lib.hid (below_up HB4.out hb); clear hx hb hn)
        | ((with_reducible refine (T3.out _).mono ?_); rintro e w7 ⟨a7, n7, c7, rfl, hn, hx, hb⟩; have HX7 := Lib.hid hx; have HB7 := Lib.hid (below_up HB6.out hb); clear hx hb hn))
    | (go_at_call 15; (with_reducible refine (R1.out _ _ HX1.out HB1.out).mono ?_); rintro e w2 ⟨a2, n2, c2, rfl, hn, hx, hb⟩; have HX2 := Lib.hid hx; have HB2 := Lib.hid (below_up HB1.out hb); have HX1' := Lib.hid (HX1.out.over hb); (obtain rfl : n2 = 1 := hn); clear hx hb)
    | (go_at_call 12; first
        | ((with_reducible refine (K0.out _ HB3.out).mono ?_); rintro e w4 ⟨rfl, hb⟩; have HB4 := Lib.hid (below_up HB3.out hb); clear hb)
        | ((with_reducible refine (K1.out _ _ HX1'.out HB2.out).mono ?_); rintro e w3 ⟨rfl, hb⟩; have HB3 := Lib.hid (below_up HB2.out hb); (obtain ⟨g, o, sa, sn, sc, rfl, hg, -, ⟨-, q1, -⟩, -⟩ := (HX2.out.over hb).get (k := 0) rfl); (have k1 : w3.cell? ⟨g, o + 0 * 8 + 1, none⟩ = some (.string ⟨#[65]⟩) := q1); clear q1; rw [Nat.zero_mul, Nat.add_zero] at k1; clear hb)
        | ((with_reducible refine (K2.out _ _ HX5.out HB5.out).mono ?_); rintro e w6 ⟨rfl, hb⟩; have HB6 := Lib.hid (below_up HB5.out hb); clear hb)
        | ((with_reducible refine (K3.out _ _ HX7.out HB7.out).mono ?_); rintro e w8 ⟨rfl, hb⟩; have HB8 := Lib.hid (below_up HB7.out hb); clear hb))
    | (go_at_call 17; first
        | ((with_reducible refine (W5.out _ HB8.out).mono ?_); rintro e w9 ⟨rfl, hb⟩; have HB9 := Lib.hid (below_up HB8.out hb); clear hb)
        | ((with_reducible refine (W9.out _ HB9.out).mono ?_); rintro e w10 ⟨rfl, hb⟩; have HB10 := Lib.hid (below_up HB9.out hb); clear hb)))
  go_ret
  exact ⟨rfl, HB10.out⟩

end Go.Proofs.YtkmlnccdldmmpaaDoor
