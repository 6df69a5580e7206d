/-
  Texts of the proof, put together: ReO, ReP.
-/
import Derived.Test.YtpnboieppkjfnaaGreatG44

/-
  Lines of a document, walked.
-/
namespace Go.Proofs.YtpnboieppkjfnaaGreat
open Go.RowKit

/-- Rows that lie somewhere. -/
def W0 (w : World) : World := { w with heap := #[] }
theorem below0 (w : World) : Below (W0 w).heap.size (W0 w) w := ⟨rfl, rfl, rfl, Nat.zero_le _, fun _ hk => absurd hk (Nat.not_lt_zero _)⟩
def LR0 (F : ByteArray) (T : TypeId) (v : Value) (lines : List Ln) (w : World) : Prop := LRow (W0 w) F T v lines w
def DR0 (F : ByteArray) (v : Value) (D : List Dg) (w : World) : Prop := DRow (W0 w) F v D w
theorem LRow.zero {W w : World} {F : ByteArray} {T : TypeId} {v : Value} {lines : List Ln} (h : LRow W F T v lines w) : LR0 F T v lines w := by
  obtain ⟨P, h1, h2, h3⟩ := h
  exact ⟨P, h1, ⟨row_low h2.1 (Nat.zero_le _), below0 w⟩, fun p hp => ⟨row_low (h3 p hp).1 (Nat.zero_le _), below0 w⟩⟩
theorem DRow.zero {W w : World} {F : ByteArray} {v : Value} {D : List Dg} (h : DRow W F v D w) : DR0 F v D w := ⟨row_low h.1 (Nat.zero_le _), below0 w⟩
theorem LR0.sm {F : ByteArray} {T : TypeId} {v : Value} {lines : List Ln} {w w' : World} (h : LR0 F T v lines w) (s : Sm w w') (hT : T ≠ 144 ∧ T ≠ 67 ∧ T ≠ 160) : LR0 F T v lines w' := by
  obtain ⟨P, h1, h2, h3⟩ := h
  exact ⟨P, h1, ⟨own_sm h2.1 s hT, below0 w'⟩, fun p hp => ⟨own_sm (h3 p hp).1 s (by decide), below0 w'⟩⟩
theorem DR0.sm {F : ByteArray} {v : Value} {D : List Dg} {w w' : World} (h : DR0 F v D w) (s : Sm w w') : DR0 F v D w' := ⟨own_sm h.1 s (by decide), below0 w'⟩

/-- A line more. -/
def LxAdd (W : World) (F : ByteArray) (lines : List Ln) (x : Ln) (w : World) (b n' cap : Nat) (w' : World) : Prop :=
  n' = lines.length + 1 ∧ LRow W F 87 (.slice (some ⟨b, 0, none⟩) n' cap) (lines ++ [x]) w' ∧ Oth 87 w w'
theorem lxadd_ex {W w : World} {ty : TypeId} {F : ByteArray} {v sv tv : Value} {lines : List Ln} {x : Ln} (h : LRow W F 87 v lines w) (ht : Up W 110 8 tv x.toks.length (tcells F x.toks) w) (hs : Src w sv 1 4 (lcell (tv, x))) (hp : tv.oneCell' = true) (hn : lines.length ≤ 500000) :
    ∃ b n' cap w', (Builtin.append_ #[36, 36] ty #[v, sv]).run Tryz.prog w = .ok (.slice (some ⟨b, 0, none⟩) n' cap) w' ∧ LxAdd W F lines x w b n' cap w' := by
  obtain ⟨P, hP, hU, hT⟩ := h
  have hPl : P.length = lines.length := by rw [← hP, List.length_map]
  obtain ⟨i0, hi, hz0, hz1, hz2⟩ := info_parts Tryz.infoLine
  obtain ⟨v', w', hr, h2, h3⟩ := run_app (ty := ty) Tryz.underlying36 hi hz0 hz1 hz2 rfl (by decide) (by decide) hU.1 hs (by intro u hu; simp only [lcell, List.mem_cons, List.not_mem_nil, or_false] at hu; rcases hu with rfl | rfl | rfl | rfl <;> first | exact hp | rfl) (by omega) hU.2.size
  have hb : Below W.heap.size W w' := hU.2.grown h3 hU.2.size fun k hk => (World.ownsRow.lt hU.1 k hk).1
  obtain ⟨b, cap, hv⟩ := append_form h2 (by omega)
  subst hv
  have ho := oth_grown hU.1 h3
  refine ⟨b, _, cap, w', hr, by rw [hPl], ⟨P ++ [(tv, x)], by simp [hP], ?_, fun p hp => ?_⟩, ho⟩
  · rw [lcells_snoc, List.length_append]
    exact ⟨h2, hb⟩
  · rcases List.mem_append.1 hp with h | h
    · exact ⟨own_oth (hT p h).1 ho (by decide), hb⟩
    · cases List.mem_singleton.1 h
      exact ⟨own_oth ht.1 ho (by decide), hb⟩

def DlRel (W : World) (F : ByteArray) (R : List (Ln × List Dg)) (o i : Value) (wr : World) : Prop :=
  ∃ (k : Nat) (ob : Option Addr) (on oc : Nat), i = .int .i64 (k : Int) ∧ k ≤ R.length ∧ o = .slice ob on oc ∧ on = k ∧ LRow W F 87 (.slice ob on oc) ((R.take k).map Prod.fst) wr
theorem dl_on {W w0 wr : World} {F : ByteArray} {R : List (Ln × List Dg)} {k b n cap : Nat} {x : Ln × List Dg} {i : Int} (hx : R[k]? = some x) (h : LxAdd W F ((R.take k).map Prod.fst) x.1 w0 b n cap wr) (hi : i = ((k + 1 : Nat) : Int)) : DlRel W F R (.slice (some ⟨b, 0, none⟩) n cap) (.int .i64 i) wr := by
  subst hi
  have hk := (List.getElem?_eq_some_iff.1 hx).1
  have e : (R.take (k + 1)).map Prod.fst = (R.take k).map Prod.fst ++ [x.1] := by rw [List.take_add_one, hx]; simp
  refine ⟨k + 1, _, n, cap, rfl, hk, rfl, ?_, by rw [e]; exact h.2.1⟩
  rw [h.1, List.length_map, List.length_take]
  omega

def DLPost (B : Nat) (M : Mp) (D : DT) (w : World) (i : DI) (e : Ending) (w' : World) : Prop :=
  ∃ (a : Option Addr) (n cap : Nat), e = .returned (.slice a n cap) ∧ n = (FL i.l).lines.length ∧ LR0 i.F 87 (.slice a n cap) (FL i.l).lines w' ∧ Stp B M D w M D w'

theorem FL_many {l : List UInt8} (h : l.length ≤ 65536) : (FL l).lines.length ≤ 70000 := by
  obtain ⟨Ts, h1, rfl⟩ := pieces_of l.length l (Nat.le_refl _)
  rw [(FL_rows h1).1, List.length_map, rows_len]
  have := few_pieces h1
  omega

theorem lrow_drew {W w : World} {F : ByteArray} {T : TypeId} {v : Value} {lines : List Ln} (h : LRow W F T v lines w) : LRow W F T v lines w.drew := LRow.over h (Below.refl _ _).drew
theorem lrow_al {W w : World} {F : ByteArray} {T : TypeId} {v : Value} {lines : List Ln} (h : LRow W F T v lines w) (o : Obj) : LRow W F T v lines (w.alloc o) := LRow.over h ((Below.refl _ _).alloc (Nat.le_refl _) o)

set_option maxRecDepth 100000 in
set_option maxHeartbeats 6400000 in
theorem dlines_any {B : Nat} {M : Mp} {D : DT} {w : World} (h : All B M D w) {p : Nat} {i : DI} (hp : D p = some i) : Calls Tryz.prog 12 #[.pointer (some ⟨p, 0, none⟩)] w (DLPost B M D w i) := by
  have hlen : i.l.length ≤ 65536 := by obtain ⟨r, o, -, -, h3, -⟩ := (h.doc p i hp).1.cells; exact h3
  have hFL := FL_many hlen
  have HM := Lib.hid (made_any h hp)
  have HH := Lib.hid h
  have HP := Lib.hid hp
  clear h hp hlen
  go_enter Tryz.func12, Tryz.ntmps12
  go_wp2_with (go_at_call 27; (with_reducible refine HM.out.mono ?_); rintro e w1 ⟨ad, n, cap, wk, r2, Ts, K, rfl, hn, hst, hd, hrow, hread, hpc, hfl, -, -⟩)
  obtain ⟨R, hR⟩ : ∃ R, rows 0 Ts = R := ⟨_, rfl⟩
  have hFR : (FL i.l).lines = R.map Prod.fst := by rw [← hfl, (FL_rows hpc).1, hR]
  rw [hR] at hread
  have hpl : p < w1.heap.size := row_lt hd
  have cp : w1.cell? ⟨p, 0, none⟩ = some (.string i.F) := by rw [Lib.cell_of_heap hd]; rfl
  have hnR : n = R.length := by rw [hn, hread.1]
  have hnl : n ≤ 70000 := by
    have e := congrArg List.length hFR
    rw [List.length_map] at e
    omega
  rw [hn] at hrow
  obtain ⟨ad2, cap2, hv2, k1, k2, k3⟩ := krow_form hrow
  simp only [Value.slice.injEq] at hv2
  obtain ⟨rfl, -, rfl⟩ := hv2
  unfold maxLen at k2
  have HC := Lib.hid k3
  have HRD := Lib.hid hread
  have HST := Lib.hid hst
  have HFR := Lib.hid hFR
  have HNR := Lib.hid hnR
  have HNK := Lib.hid hn
  have HS0 : Hid (DlRel w1 i.F R (.slice none 0 0) (.int .i64 0) w1) := Lib.hid ⟨0, none, 0, 0, rfl, Nat.zero_le _, rfl, rfl, [], rfl, up_nil w1 _ 4, fun p hp => by cases hp⟩
  have hcn : n ≤ cap := by omega
  clear hR hst hd hrow hread hpc hfl hFR k3 hn k1 hnR
  go_loopw [3, 9] (fun o i' wr => DlRel w1 i.F R o i' wr) (fun _ i _ => R.length - (intOf i).toNat)
  case atStart => exact HS0.out
  case round =>
    obtain ⟨k, ob, on, oc, rfl, hk, rfl, hon, hU⟩ := hrel
    have HU := Lib.hid hU
    have HON := Lib.hid hon
    have hnR := HNR.out
    have hnK := HNK.out
    clear hU hon
    obtain ⟨wq, hwq⟩ : ∃ wq : World, wr = wq := ⟨_, rfl⟩
    rw [hwq] at HU ⊢
    clear hwq wr
    by_cases hlt : k < n
    · obtain ⟨⟨q, bb⟩, hkq⟩ : ∃ q, K[k]? = some q := ⟨_, List.getElem?_eq_getElem (by omega)⟩
      obtain ⟨x, hx⟩ : ∃ x, R[k]? = some x := ⟨_, List.getElem?_eq_getElem (by omega)⟩
      obtain ⟨g, rfl, hgl, d0, d1⟩ := HC.out k _ hkq
      obtain ⟨hsm, hla⟩ := HRD.out.2 k _ x hkq hx
      simp only at d0 d1 hsm hla
      have hb1 := HU.out.low
      have e0 := bcell hb1 d0 hgl
      have e1 := bcell hb1 d1 hgl
      have e2 := bcell hb1 cp hpl
      have hkn : (k : Int) < (n : Int) := by omega
      have hk0 : (0 : Int) ≤ (k : Int) := by omega
      have HX := Lib.hid hx
      have HLA := Lib.hid hla
      have HSMA := Lib.hid hsm
      have HE2 := Lib.hid e2
      have HPQ : Hid (p < wq.heap.size) := Lib.hid (Nat.lt_of_lt_of_le hpl hb1.size)
      have HB1 := Lib.hid hb1
      clear d0 d1 hla hsm hx hkq hb1 e2
      go_wp2
      obtain ⟨w3, hw3⟩ : ∃ w3, wq.alloc (.cells #[.pointer (some ⟨q, 0, none⟩), .int .i64 bb] 84) = w3 := ⟨_, rfl⟩
      have HB3 : Hid (Below wq.heap.size wq w3) := Lib.hid (by rw [← hw3]; exact (Below.refl _ _).alloc (Nat.le_refl _) _)
      have HKB : Hid (w3.heap[wq.heap.size]? = some (.cells #[.pointer (some ⟨q, 0, none⟩), .int .i64 bb] 84 (0, 0))) := Lib.hid (by rw [← hw3]; exact heap_alloc_new wq _)
      rw [hw3]
      obtain ⟨kb, hkb⟩ : ∃ kb, wq.heap.size = kb := ⟨_, rfl⟩
      rw [hkb] at HKB ⊢
      clear hw3 e0 e1
      have HS1 : Hid (w3.drew.cell? ⟨kb, 0, none⟩ = some (.pointer (some ⟨q, 0, none⟩)) ∧ w3.drew.cell? ⟨kb, 1, none⟩ = some (.int .i64 bb) ∧ w3.drew.cell? ⟨p, 0, none⟩ = some (.string i.F)) := Lib.hid ⟨by show w3.cell? _ = _; rw [Lib.cell_of_heap HKB.out]; rfl, by show w3.cell? _ = _; rw [Lib.cell_of_heap HKB.out]; rfl, bcell HB3.out.drew HE2.out HPQ.out⟩
      have HBD : Hid (Below w1.heap.size w1 w3.drew) := Lib.hid (below_up HB1.out HB3.out.drew)
      have HPL : Hid (Calls Tryz.prog 29 #[.agg #[.pointer (some ⟨q, 0, none⟩), .int .i64 bb], .string i.F] w3.drew (PlPost w3.drew i.F x.1)) := Lib.hid (placed_any (HLA.out.sm (Sm.below HBD.out)) HSMA.out i.F)
      have HLT : Hid (kb < w3.drew.heap.size ∧ p < w3.drew.heap.size) := Lib.hid ⟨row_lt HKB.out, Nat.lt_of_lt_of_le HPQ.out HB3.out.size⟩
      have HUD := Lib.hid (lrow_drew (LRow.over HU.out HB3.out))
      have hlen5 : ((R.take k).map Prod.fst).length ≤ 500000 := by rw [List.length_map, List.length_take]; omega
      go_region_held3 (fun w' => w'.cell? ⟨kb, 0, none⟩ = some (.pointer (some ⟨q, 0, none⟩)) ∧ w'.cell? ⟨kb, 1, none⟩ = some (.int .i64 bb) ∧ w'.cell? ⟨p, 0, none⟩ = some (.string i.F))
        (first | exact HS1.out | exact HS2.out | exact HS3.out _ | exact HS4.out)
        (first
          | (go_at_call 29; (with_reducible refine HPL.out.mono ?_); rintro e w4 ⟨ta, tn, tc, rfl, htn, hu4⟩; have HU4 := Lib.hid hu4; have HTN := Lib.hid htn; have HS2 : Hid (w4.cell? ⟨kb, 0, none⟩ = some (.pointer (some ⟨q, 0, none⟩)) ∧ w4.cell? ⟨kb, 1, none⟩ = some (.int .i64 bb) ∧ w4.cell? ⟨p, 0, none⟩ = some (.string i.F)) := Lib.hid ⟨bcell hu4.2 HS1.out.1 HLT.out.1, bcell hu4.2 HS1.out.2.1 HLT.out.1, bcell hu4.2 HS1.out.2.2 HLT.out.2⟩; have HS3 : Hid (∀ o, (w4.alloc o).cell? ⟨kb, 0, none⟩ = some (.pointer (some ⟨q, 0, none⟩)) ∧ (w4.alloc o).cell? ⟨kb, 1, none⟩ = some (.int .i64 bb) ∧ (w4.alloc o).cell? ⟨p, 0, none⟩ = some (.string i.F)) := Lib.hid (fun o => ⟨bcell ((Below.refl _ _).alloc (Nat.le_refl _) o) HS2.out.1 (Nat.lt_of_lt_of_le HLT.out.1 hu4.2.size), bcell ((Below.refl _ _).alloc (Nat.le_refl _) o) HS2.out.2.1 (Nat.lt_of_lt_of_le HLT.out.1 hu4.2.size), bcell ((Below.refl _ _).alloc (Nat.le_refl _) o) HS2.out.2.2 (Nat.lt_of_lt_of_le HLT.out.2 hu4.2.size)⟩); clear hu4 htn)
          | (refine step_ex rfl (.tmp 13) (.tmp 20) 36 rfl _ _ _ rfl rfl (lxadd_ex (W := w1) (F := i.F) (tv := .slice ta tn tc) (x := x.1) (lines := (R.take k).map Prod.fst) ?_ ?_ ?_ rfl hlen5) ?_
             · exact lrow_al (LRow.over HUD.out HU4.out.2) _
             · exact HTN.out ▸ Up.over (Up.lower HU4.out HBD.out) ((Below.refl _ _).alloc (Nat.le_refl _) _)
             · exact src_row (heap_alloc_at (by simp)) rfl rfl
             intro b5 n5 c5 w7 hp5
             have HK5 := Lib.hid hp5
             have HS4 : Hid (w7.cell? ⟨kb, 0, none⟩ = some (.pointer (some ⟨q, 0, none⟩)) ∧ w7.cell? ⟨kb, 1, none⟩ = some (.int .i64 bb) ∧ w7.cell? ⟨p, 0, none⟩ = some (.string i.F)) := Lib.hid (by have h4 : w4.heap[kb]? = some (.cells #[.pointer (some ⟨q, 0, none⟩), .int .i64 bb] 84 (0, 0)) := ((HU4.out.2.block kb HLT.out.1).trans HKB.out); have hh := hp5.2.2 kb _ _ _ ((((Below.refl _ _).alloc (Nat.le_refl _) _).block kb (row_lt h4)).trans h4) (by decide); exact ⟨by rw [Lib.cell_of_heap hh]; rfl, by rw [Lib.cell_of_heap hh]; rfl, bcell hp5.2.1.low cp hpl⟩)
             clear hp5))
      go_wp2
      go_roundw
      case rel => exact dl_on HX.out HK5.out (by simp)
      case measure => simp [intOf]; omega
    · have hke : k = R.length := by omega
      have hkn : ¬ (k : Int) < (n : Int) := by omega
      have HF : Hid (DLPost B M D w i (.returned (.slice ob on oc)) wq) := Lib.hid ⟨ob, on, oc, rfl, by rw [HFR.out, List.length_map, HON.out, hke], by
        have h := HU.out
        rw [hke, List.take_length, ← HFR.out] at h
        exact h.zero, HST.out.trans (Stp.below HST.out.all HU.out.low)⟩
      go_wp2
      go_ret
      exact HF.out

end Go.Proofs.YtpnboieppkjfnaaGreat

/-
  Diags of a document, walked.
-/
namespace Go.Proofs.YtpnboieppkjfnaaGreat
open Go.RowKit

/-- A diagnostic more. -/
def DAdd (W : World) (F : ByteArray) (D : List Dg) (d : Dg) (w : World) (v : Value) (w' : World) : Prop :=
  ∃ b n' cap, v = .slice (some ⟨b, 0, none⟩) n' cap ∧ n' = D.length + 1 ∧ Up W 104 4 (.slice (some ⟨b, 0, none⟩) n' cap) n' (dcells F (D ++ [d])) w' ∧ Oth 104 w w'
theorem dadd_ex {W w : World} {ty : TypeId} {F : ByteArray} {v sv : Value} {D : List Dg} {n : Nat} {d : Dg} (h : Up W 104 4 v n (dcells F D) w) (hn0 : n = D.length) (hs : Src w sv 1 4 (dcell F d)) (hn : n ≤ 500000) :
    ∃ v' w', (Builtin.append_ #[70, 70] ty #[v, sv]).run Tryz.prog w = .ok v' w' ∧ DAdd W F D d w v' w' := by
  obtain ⟨i0, hi, hz0, hz1, hz2⟩ := info_parts Tryz.infoDiag
  obtain ⟨v', w', hr, h2, h3⟩ := run_app (ty := ty) Tryz.underlying70 hi hz0 hz1 hz2 rfl (by decide) (by decide) h.1 hs (by intro u hu; simp only [dcell, List.mem_cons, List.not_mem_nil, or_false] at hu; rcases hu with rfl | rfl | rfl | rfl <;> rfl) (by omega) h.2.size
  have hb : Below W.heap.size W w' := h.2.grown h3 h.2.size fun k hk => (World.ownsRow.lt h.1 k hk).1
  obtain ⟨b, cap, hv⟩ := append_form h2 (by omega)
  subst hv
  exact ⟨_, w', hr, b, n + 1, cap, rfl, by rw [hn0], ⟨by rw [dcells_snoc]; exact h2, hb⟩, oth_grown h.1 h3⟩

def DdRel (W : World) (F : ByteArray) (R : List (Ln × List Dg)) (o i : Value) (wr : World) : Prop :=
  ∃ (k : Nat) (ob : Option Addr) (on oc : Nat), i = .int .i64 (k : Int) ∧ k ≤ R.length ∧ o = .slice ob on oc ∧ on = ((R.take k).flatMap Prod.snd).length ∧ Up W 104 4 (.slice ob on oc) on (dcells F ((R.take k).flatMap Prod.snd)) wr
def DiRel (W Wk : World) (F : ByteArray) (A x : List Dg) (o i : Value) (wr : World) : Prop :=
  ∃ (j : Nat) (ob : Option Addr) (on oc : Nat), i = .int .i64 (j : Int) ∧ j ≤ x.length ∧ o = .slice ob on oc ∧ on = (A ++ x.take j).length ∧ Up W 104 4 (.slice ob on oc) on (dcells F (A ++ x.take j)) wr ∧ Oth 104 Wk wr
def DDPost (B : Nat) (M : Mp) (D : DT) (w : World) (i : DI) (e : Ending) (w' : World) : Prop :=
  ∃ (a : Option Addr) (n cap : Nat), e = .returned (.slice a n cap) ∧ DR0 i.F (.slice a n cap) (FL i.l).diags w' ∧ Stp B M D w M D w'

theorem di_on {W Wk w6 w7 : World} {F : ByteArray} {A x : List Dg} {d : Dg} {j : Nat} {v : Value} {i : Int} (hd : x[j]? = some d) (h : DAdd W F (A ++ x.take j) d w6 v w7) (ho : Oth 104 Wk w6) (hi : i = ((j + 1 : Nat) : Int)) : DiRel W Wk F A x v (.int .i64 i) w7 := by
  subst hi
  obtain ⟨b, n, cap, rfl, h1, h2, h3⟩ := h
  have e : A ++ x.take (j + 1) = A ++ x.take j ++ [d] := by rw [List.take_add_one, hd, List.append_assoc]; rfl
  exact ⟨j + 1, _, n, cap, rfl, (List.getElem?_eq_some_iff.1 hd).1, rfl, by rw [e, List.length_append, h1]; rfl, by rw [e]; exact h2, ho.trans h3⟩
theorem dd_on {W Wk wr : World} {F : ByteArray} {R : List (Ln × List Dg)} {k : Nat} {x : Ln × List Dg} {ob : Option Addr} {on oc : Nat} {i : Int} (hx : R[k]? = some x) (hon : on = ((R.take k).flatMap Prod.snd ++ x.2.take x.2.length).length) (h : Up W 104 4 (.slice ob on oc) on (dcells F ((R.take k).flatMap Prod.snd ++ x.2.take x.2.length)) wr) (_ : Oth 104 Wk wr) (hi : i = ((k + 1 : Nat) : Int)) : DdRel W F R (.slice ob on oc) (.int .i64 i) wr := by
  subst hi
  have e : (R.take (k + 1)).flatMap Prod.snd = (R.take k).flatMap Prod.snd ++ x.2.take x.2.length := by rw [List.take_add_one, hx, List.take_length, List.flatMap_append]; simp
  exact ⟨k + 1, ob, on, oc, rfl, (List.getElem?_eq_some_iff.1 hx).1, rfl, by rw [e]; exact hon, by rw [e]; exact h⟩

theorem flat_le (R : List (Ln × List Dg)) {k : Nat} {x : Ln × List Dg} (h : R[k]? = some x) : ((R.take k).flatMap Prod.snd).length + x.2.length ≤ (R.flatMap Prod.snd).length := by
  have e : R.flatMap Prod.snd = (R.take k).flatMap Prod.snd ++ (x.2 ++ (R.drop (k + 1)).flatMap Prod.snd) := by
    rw [← rest_split h, ← List.flatMap_append, List.take_append_drop]
  rw [e, List.length_append, List.length_append]
  omega

set_option maxRecDepth 100000 in
set_option maxHeartbeats 6400000 in
theorem ddiags_any {B : Nat} {M : Mp} {D : DT} {w : World} (h : All B M D w) {p : Nat} {i : DI} (hp : D p = some i) : Calls Tryz.prog 23 #[.pointer (some ⟨p, 0, none⟩)] w (DDPost B M D w i) := by
  have hlen : i.l.length ≤ 65536 := by obtain ⟨r, o, -, -, h3, -⟩ := (h.doc p i hp).1.cells; exact h3
  have hFL := FL_few i.l
  have hFM := FL_many hlen
  have HM := Lib.hid (made_any h hp)
  clear h hp
  go_enter Tryz.func23, Tryz.ntmps23
  go_wp2_with (go_at_call 27; (with_reducible refine HM.out.mono ?_); rintro e w1 ⟨ad, n, cap, wk, r2, Ts, K, rfl, hn, hst, hd, hrow, hread, hpc, hfl, -, -⟩)
  obtain ⟨R, hR⟩ : ∃ R, rows 0 Ts = R := ⟨_, rfl⟩
  have hFR : (FL i.l).diags = R.flatMap Prod.snd := by rw [← hfl, (FL_rows hpc).2, hR]
  have hFN : (FL i.l).lines.length = R.length := by rw [← hfl, (FL_rows hpc).1, hR, List.length_map]
  rw [hR] at hread
  have hpl : p < w1.heap.size := row_lt hd
  have cp : w1.cell? ⟨p, 0, none⟩ = some (.string i.F) := by rw [Lib.cell_of_heap hd]; rfl
  have hnR : n = R.length := by rw [hn, hread.1]
  have hnl : n ≤ 70000 := by omega
  have hRf : (R.flatMap Prod.snd).length ≤ 70000 := by rw [← hFR]; omega
  rw [hn] at hrow
  obtain ⟨ad2, cap2, hv2, k1, k2, k3⟩ := krow_form hrow
  simp only [Value.slice.injEq] at hv2
  obtain ⟨rfl, -, rfl⟩ := hv2
  unfold maxLen at k2
  have HC := Lib.hid k3
  have HRD := Lib.hid hread
  have HST := Lib.hid hst
  have HFR := Lib.hid hFR
  have HNR := Lib.hid hnR
  have HNK := Lib.hid hn
  have HRF := Lib.hid hRf
  have HS0 : Hid (DdRel w1 i.F R (.slice none 0 0) (.int .i64 0) w1) := Lib.hid ⟨0, none, 0, 0, rfl, Nat.zero_le _, rfl, rfl, up_nil w1 _ 4⟩
  have hcn : n ≤ cap := by omega
  clear hR hst hd hrow hread hpc hfl hFR k3 hn k1 hnR hFL hFM hFN hRf hlen
  go_loopw [3, 11] (fun o i' wr => DdRel w1 i.F R o i' wr) (fun _ i _ => R.length - (intOf i).toNat)
  case atStart => exact HS0.out
  case round =>
    obtain ⟨k, ob, on, oc, rfl, hk, rfl, hon, hU⟩ := hrel
    have HU := Lib.hid hU
    have HON := Lib.hid hon
    have hnR := HNR.out
    have hnK := HNK.out
    clear hU hon
    obtain ⟨wq, hwq⟩ : ∃ wq : World, wr = wq := ⟨_, rfl⟩
    rw [hwq] at HU ⊢
    clear hwq wr
    by_cases hlt : k < n
    · obtain ⟨⟨q, bb⟩, hkq⟩ : ∃ q, K[k]? = some q := ⟨_, List.getElem?_eq_getElem (by omega)⟩
      obtain ⟨x, hx⟩ : ∃ x, R[k]? = some x := ⟨_, List.getElem?_eq_getElem (by omega)⟩
      obtain ⟨g, rfl, hgl, d0, d1⟩ := HC.out k _ hkq
      obtain ⟨hsm, hla⟩ := HRD.out.2 k _ x hkq hx
      simp only at d0 d1 hsm hla
      have hb1 := HU.out.2
      have e0 := bcell hb1 d0 hgl
      have e1 := bcell hb1 d1 hgl
      have hkn : (k : Int) < (K.length : Int) := by omega
      have hk0 : (0 : Int) ≤ (k : Int) := by omega
      have HX := Lib.hid hx
      have HSMA := Lib.hid hsm
      have hxl := flat_le R hx
      have hxf : ((R.take k).flatMap Prod.snd).length + x.2.length ≤ 70000 := Nat.le_trans hxl HRF.out
      obtain ⟨tv, dv, hl1, -, hl3⟩ := hla
      obtain ⟨da, dc, rfl, q1, q2, q3⟩ := row_form hl3
      unfold maxLen at q2
      have hql : q < w1.heap.size := row_lt hl1
      have HCQ : Hid (w1.cell? ⟨q, 4, none⟩ = some (.slice da x.2.length dc)) := Lib.hid (by rw [Lib.cell_of_heap hl1]; rfl)
      have HD3 := Lib.hid q3
      obtain ⟨A, hA⟩ : ∃ A, (R.take k).flatMap Prod.snd = A := ⟨_, rfl⟩
      rw [hA] at hxf
      have HA := Lib.hid hA
      have y4 := bcell hb1 HCQ.out hql
      have hqq : q < wq.heap.size := Nat.lt_of_lt_of_le hql hb1.size
      clear d0 d1 hsm hx hkq hl1 hl3 q3 hxl hA
      go_wp2
      obtain ⟨w3, hw3⟩ : ∃ w3, wq.alloc (.cells #[.pointer (some ⟨q, 0, none⟩), .int .i64 bb] 84) = w3 := ⟨_, rfl⟩
      have HB3 : Hid (Below wq.heap.size wq w3) := Lib.hid (by rw [← hw3]; exact (Below.refl _ _).alloc (Nat.le_refl _) _)
      have HKB : Hid (w3.heap[wq.heap.size]? = some (.cells #[.pointer (some ⟨q, 0, none⟩), .int .i64 bb] 84 (0, 0))) := Lib.hid (by rw [← hw3]; exact heap_alloc_new wq _)
      rw [hw3]
      obtain ⟨kb, hkb⟩ : ∃ kb, wq.heap.size = kb := ⟨_, rfl⟩
      rw [hkb] at HKB ⊢
      have HB13 : Hid (Below w1.heap.size w1 w3) := Lib.hid (below_up hb1 HB3.out)
      clear hw3 e0 e1 hb1 y4 hqq
      have HDI0 : Hid (DiRel w1 w3 i.F A x.2 (.slice ob on oc) (.int .i64 0) w3) := Lib.hid ⟨0, ob, on, oc, rfl, Nat.zero_le _, rfl, by rw [List.take_zero, List.append_nil, ← HA.out]; exact HON.out, by rw [List.take_zero, List.append_nil, ← HA.out]; exact Up.over HU.out HB3.out, Oth.below (Below.refl _ _)⟩
      go_loopw [3, 21] (fun o j wr => DiRel w1 w3 i.F A x.2 o j wr) (fun _ j _ => x.2.length - (intOf j).toNat)
      case atStart => exact HDI0.out
      case round =>
        obtain ⟨j, ob2, on2, oc2, rfl, hj, rfl, hon2, hU2, hO2⟩ := hrel
        have HU2 := Lib.hid hU2
        have HON2 := Lib.hid hon2
        have HO2 := Lib.hid hO2
        have hol : on2 ≤ 70000 := by rw [hon2, List.length_append, List.length_take]; omega
        obtain ⟨w4, hw4⟩ : ∃ w4 : World, wr = w4 := ⟨_, rfl⟩
        rw [hw4] at HU2 HO2 ⊢
        clear hw4 wr hU2 hon2 hO2
        by_cases hjl : j < x.2.length
        · obtain ⟨d, hdj⟩ : ∃ d, x.2[j]? = some d := ⟨_, List.getElem?_eq_getElem hjl⟩
          have hg := fun m (hm : m < 4) => flat_get (f := dcellB Efile bb) (n := 4) (fun _ => rfl) x.2 j _ hdj m hm
          obtain ⟨dg, hda, hdl, c0⟩ := HD3.out (j * 4 + 0) _ ((hg 0 (by omega)).trans rfl)
          obtain ⟨dg1, hda1, -, c1⟩ := HD3.out (j * 4 + 1) _ ((hg 1 (by omega)).trans rfl)
          obtain ⟨dg2, hda2, -, c2⟩ := HD3.out (j * 4 + 2) _ ((hg 2 (by omega)).trans rfl)
          obtain ⟨dg3, hda3, -, c3⟩ := HD3.out (j * 4 + 3) _ ((hg 3 (by omega)).trans rfl)
          subst hda
          simp only [Option.some.injEq, Addr.mk.injEq, and_true] at hda1 hda2 hda3
          subst hda1 hda2 hda3
          have hbb := HU2.out.2
          have e0 : w4.cell? ⟨dg, j * 4, none⟩ = some (.int .i64 (d.c : Int)) := bcell hbb c0 hdl
          have e1 : w4.cell? ⟨dg, j * 4 + 1, none⟩ = some (.string Efile) := bcell hbb c1 hdl
          have hds := HSMA.out.2.2.2.2.1 d (List.mem_of_getElem? hdj)
          have hbs := HSMA.out.1
          obtain ⟨f0, hf0⟩ : ∃ f0, (d.f : Int) - bb = f0 := ⟨_, rfl⟩
          obtain ⟨t0, ht0⟩ : ∃ t0, (d.t : Int) - bb = t0 := ⟨_, rfl⟩
          have e2 : w4.cell? ⟨dg, j * 4 + 2, none⟩ = some (.int .i64 f0) := by rw [← hf0]; exact bcell hbb c2 hdl
          have e3 : w4.cell? ⟨dg, j * 4 + 3, none⟩ = some (.int .i64 t0) := by rw [← ht0]; exact bcell hbb c3 hdl
          rw [hf0, ht0] at hds
          have HDF : Hid (f0 + bb = (d.f : Int)) := Lib.hid (by omega)
          have HDT : Hid (t0 + bb = (d.t : Int)) := Lib.hid (by omega)
          have HSP : Hid (∀ X : World, Calls Tryz.prog 39 #[.agg #[.pointer (some ⟨q, 0, none⟩), .int .i64 bb], .string i.F, .agg #[.string Efile, .int .i64 f0, .int .i64 t0]] X (SpanBel i.F (f0 + bb) (t0 + bb) X)) := Lib.hid (fun X => spanK_any _ bb f0 t0 i.F Efile X hbs hds.1 hds.2)
          have hkb4 := HO2.out kb _ _ _ HKB.out (by decide)
          have HKB4 := Lib.hid hkb4
          have HE4 : Hid (w4.cell? ⟨p, 0, none⟩ = some (.string i.F)) := Lib.hid (bcell hbb cp hpl)
          have HP4 : Hid (p < w4.heap.size) := Lib.hid (Nat.lt_of_lt_of_le hpl hbb.size)
          have hjn : (j : Int) < (x.2.length : Int) := by omega
          have hj0 : (0 : Int) ≤ (j : Int) := by omega
          have HDJ := Lib.hid hdj
          clear hg c0 c1 c2 c3 hbb hf0 ht0 hds hbs hkb4 hdj
          go_wp2
          obtain ⟨w5, hw5⟩ : ∃ w5, w4.alloc (.cells #[.int .i64 (d.c : Int), .string Efile, .int .i64 f0, .int .i64 t0] 104) = w5 := ⟨_, rfl⟩
          have HB5 : Hid (Below w4.heap.size w4 w5) := Lib.hid (by rw [← hw5]; exact (Below.refl _ _).alloc (Nat.le_refl _) _)
          have HDB : Hid (w5.heap[w4.heap.size]? = some (.cells #[.int .i64 (d.c : Int), .string Efile, .int .i64 f0, .int .i64 t0] 104 (0, 0))) := Lib.hid (by rw [← hw5]; exact heap_alloc_new w4 _)
          rw [hw5]
          obtain ⟨db, hdb⟩ : ∃ db, w4.heap.size = db := ⟨_, rfl⟩
          rw [hdb] at HDB ⊢
          have HDBE := Lib.hid hdb
          clear hw5 e0 e1 e2 e3 hdb
          have HS1 : Hid (w5.drew.cell? ⟨kb, 0, none⟩ = some (.pointer (some ⟨q, 0, none⟩)) ∧ w5.drew.cell? ⟨kb, 1, none⟩ = some (.int .i64 bb) ∧ w5.drew.cell? ⟨p, 0, none⟩ = some (.string i.F) ∧ w5.drew.cell? ⟨db, 1, none⟩ = some (.string Efile) ∧ w5.drew.cell? ⟨db, 2, none⟩ = some (.int .i64 f0) ∧ w5.drew.cell? ⟨db, 3, none⟩ = some (.int .i64 t0)) := Lib.hid (by
            have h5 := (HB5.out.block kb (row_lt HKB4.out)).trans HKB4.out
            have hd5 := HDB.out
            refine ⟨?_, ?_, bcell HB5.out.drew HE4.out HP4.out, ?_, ?_, ?_⟩
            · show w5.cell? _ = _; rw [Lib.cell_of_heap h5]; rfl
            · show w5.cell? _ = _; rw [Lib.cell_of_heap h5]; rfl
            · show w5.cell? _ = _; rw [Lib.cell_of_heap hd5]; rfl
            · show w5.cell? _ = _; rw [Lib.cell_of_heap hd5]; rfl
            · show w5.cell? _ = _; rw [Lib.cell_of_heap hd5]; rfl)
          have HLT : Hid (kb < w5.drew.heap.size ∧ p < w5.drew.heap.size ∧ db < w5.drew.heap.size) := Lib.hid ⟨Nat.lt_of_lt_of_le (row_lt HKB4.out) HB5.out.size, Nat.lt_of_lt_of_le HP4.out HB5.out.size, row_lt HDB.out⟩
          have hs1 := HS1.out
          obtain ⟨s1, s2, s3, s4, s5, s6⟩ := hs1
          go_region_with (first | (go_at_call 39; (with_reducible refine (HSP.out _).mono ?_); rintro e w6 ⟨rfl, hu6⟩; have HB6 := Lib.hid hu6; have HS2 : Hid (w6.cell? ⟨kb, 0, none⟩ = some (.pointer (some ⟨q, 0, none⟩)) ∧ w6.cell? ⟨kb, 1, none⟩ = some (.int .i64 bb) ∧ w6.cell? ⟨p, 0, none⟩ = some (.string i.F) ∧ w6.cell? ⟨db, 1, none⟩ = some (.string Efile) ∧ w6.cell? ⟨db, 2, none⟩ = some (.int .i64 f0) ∧ w6.cell? ⟨db, 3, none⟩ = some (.int .i64 t0)) := Lib.hid ⟨bcell hu6 HS1.out.1 HLT.out.1, bcell hu6 HS1.out.2.1 HLT.out.1, bcell hu6 HS1.out.2.2.1 HLT.out.2.1, bcell hu6 HS1.out.2.2.2.1 HLT.out.2.2, bcell hu6 HS1.out.2.2.2.2.1 HLT.out.2.2, bcell hu6 HS1.out.2.2.2.2.2 HLT.out.2.2⟩; have HD6 : Hid (w6.heap[db]? = some (.cells #[.int .i64 (d.c : Int), .string Efile, .int .i64 f0, .int .i64 t0] 104 (0, 0))) := Lib.hid ((hu6.block db HLT.out.2.2).trans HDB.out); have z1 : w6.frozen? ⟨db, 1, none⟩ = false := frozen_of_row w6 db 1 _ _ HD6.out; have z2 : w6.frozen? ⟨db, 2, none⟩ = false := frozen_of_row w6 db 2 _ _ HD6.out; have z3 : w6.frozen? ⟨db, 3, none⟩ = false := frozen_of_row w6 db 3 _ _ HD6.out; obtain ⟨-, -, -, v1, v2, v3⟩ := HS2.out; clear hu6))
          all_goals
            have hbw : Below w4.heap.size w4 (((w6.setCell ⟨db, 1, none⟩ (.string i.F)).setCell ⟨db, 2, none⟩ (.int .i64 (f0 + bb))).setCell ⟨db, 3, none⟩ (.int .i64 (t0 + bb))) := (((below_up HB5.out.drew HB6.out).setCell (Nat.le_of_eq HDBE.out) _).setCell (Nat.le_of_eq HDBE.out) _).setCell (Nat.le_of_eq HDBE.out) _
            have hdb8 := heap_setCell_same _ db 3 _ _ (.int .i64 (t0 + bb)) (heap_setCell_same _ db 2 _ _ (.int .i64 (f0 + bb)) (heap_setCell_same w6 db 1 _ _ (.string i.F) HD6.out))
            obtain ⟨w8, hw8⟩ : ∃ w8, (((w6.setCell ⟨db, 1, none⟩ (.string i.F)).setCell ⟨db, 2, none⟩ (.int .i64 (f0 + bb))).setCell ⟨db, 3, none⟩ (.int .i64 (t0 + bb))) = w8 := ⟨_, rfl⟩
            rw [hw8] at hbw hdb8 ⊢
            have hd8 : w8.heap[db]? = some (.cells #[.int .i64 (d.c : Int), .string i.F, .int .i64 (d.f : Int), .int .i64 (d.t : Int)] 104 (0, 0)) := by rw [hdb8, ← HDF.out, ← HDT.out]; rfl
            have u0 : w8.cell? ⟨db, 0, none⟩ = some (.int .i64 (d.c : Int)) := by rw [Lib.cell_of_heap hd8]; rfl
            have u1 : w8.cell? ⟨db, 1, none⟩ = some (.string i.F) := by rw [Lib.cell_of_heap hd8]; rfl
            have u2 : w8.cell? ⟨db, 2, none⟩ = some (.int .i64 (d.f : Int)) := by rw [Lib.cell_of_heap hd8]; rfl
            have u3 : w8.cell? ⟨db, 3, none⟩ = some (.int .i64 (d.t : Int)) := by rw [Lib.cell_of_heap hd8]; rfl
            have HU8 := Lib.hid (Up.over HU2.out hbw)
            have HB8 := Lib.hid hbw
            clear hbw hdb8 hd8 hw8 v1 v2 v3 z1 z2 z3 s1 s2 s3 s4 s5 s6
            go_wp2_with (at_builtin; refine wpList_append_ex rfl (.tmp 34) (.tmp 36) 70 rfl _ (dadd_ex (W := w1) (F := i.F) (n := on2) (D := A ++ x.2.take j) (d := d) (Up.over HU8.out ((Below.refl _ _).alloc (Nat.le_refl _) _)) HON2.out (src_row (heap_alloc_at rfl) rfl rfl) (by omega)) ?_; rintro v9 w9 ha9; have HA9 := Lib.hid ha9; obtain ⟨b9, n9, c9, rfl, -⟩ := ha9)
            go_roundw
            case rel =>
              refine di_on HDJ.out HA9.out ((HO2.out.trans (Oth.below HB8.out)).trans (Oth.below ((Below.refl _ _).alloc (Nat.le_refl _) _))) ?_
              simp
            case measure => simp [intOf]; omega
        · have hje : j = x.2.length := by omega
          have hjn : ¬ (j : Int) < (x.2.length : Int) := by omega
          subst hje
          go_wp2
          go_roundw
          case rel =>
            refine dd_on HX.out (HA.out ▸ HON2.out) (HA.out ▸ HU2.out) HO2.out ?_
            simp
          case measure => simp [intOf]; omega
    · have hke : k = R.length := by omega
      have hkn : ¬ (k : Int) < (n : Int) := by omega
      have HF : Hid (DDPost B M D w i (.returned (.slice ob on oc)) wq) := Lib.hid ⟨ob, on, oc, rfl, by
        have h := HU.out
        have h2 := HON.out
        rw [hke, List.take_length] at h h2
        rw [HFR.out]
        exact DRow.zero (W := w1) (h2 ▸ h), HST.out.trans (Stp.below HST.out.all HU.out.2)⟩
      go_wp2
      go_ret
      exact HF.out

end Go.Proofs.YtpnboieppkjfnaaGreat
