/-
  Texts of the proof, put together: ReV.
-/
import Derived.Test.YtpnboieppkjfnaaGreatG49

/-
  RelexEdits, walked.
-/
namespace Go.Proofs.YtpnboieppkjfnaaGreat
open Go.RowKit

set_option maxRecDepth 100000 in
theorem edits_longA (s : ByteArray) (a : Option Addr) (n cap : Nat) (W : World) (hs : 1500 < s.size) (hs2 : s.size ≤ maxLen) : Calls Tryz.prog 3 #[.string s, .slice a n cap] W (LawPost W) := by
  unfold maxLen at hs2
  have hli : (1500 : Int) < (s.size : Int) := by omega
  go_enter Tryz.func3, Tryz.ntmps3
  go_wp2_with (go_at_call 6; (with_reducible refine (aw_start _).mono ?_); rintro e w1 ⟨rfl, b1⟩)
  go_ret
  exact ⟨rfl, b1⟩
set_option maxRecDepth 100000 in
theorem edits_longB (s : ByteArray) (a : Option Addr) (n cap : Nat) (W : World) (hs : ¬ 1500 < s.size) (hn : 25 < n) (hn2 : n ≤ 9223372036854775807) : Calls Tryz.prog 3 #[.string s, .slice a n cap] W (LawPost W) := by
  have hli : ¬ (1500 : Int) < (s.size : Int) := by omega
  have hlm : (25 : Int) < (n : Int) := by omega
  go_enter Tryz.func3, Tryz.ntmps3
  go_wp2_with (go_at_call 6; (with_reducible refine (aw_start _).mono ?_); rintro e w1 ⟨rfl, b1⟩)
  go_ret
  exact ⟨rfl, b1⟩

/-- The last of them. -/
theorem way_last {Q : List (Nat × ByteArray)} (h : Q ≠ []) : ∃ (m : Nat) (q : Nat) (t : ByteArray), Q.length = m + 1 ∧ Q[m]? = some (q, t) := by
  have h0 := List.length_pos_iff.2 h
  obtain ⟨m, hm⟩ : ∃ m, Q.length = m + 1 := ⟨Q.length - 1, by omega⟩
  exact ⟨m, Q[m].1, Q[m].2, hm, List.getElem?_eq_getElem (by omega)⟩
theorem Way.cells {W w : World} {k : Nat} {Q : List (Nat × ByteArray)} {M : Mp} {D : DT} {a7 a8 : Option Addr} {n7 c7 n8 c8 : Nat} (h : Way W k Q M D (.slice a7 n7 c7) (.slice a8 n8 c8) w) {m : Nat} {q : Nat} {t : ByteArray} (hq : Q[m]? = some (q, t)) :
    ∃ g7 g8, a7 = some ⟨g7, 0, none⟩ ∧ a8 = some ⟨g8, 0, none⟩ ∧ n7 ≤ c7 ∧ n8 ≤ c8 ∧ n7 = Q.length ∧ n8 = Q.length ∧ g7 < w.heap.size ∧ g8 < w.heap.size ∧ w.cell? ⟨g7, m, none⟩ = some (.pointer (some ⟨q, 0, none⟩)) ∧ w.cell? ⟨g8, m, none⟩ = some (.string t) := by
  obtain ⟨x7, y7, e7, b7, -, k7⟩ := row_form h.docs
  obtain ⟨x8, y8, e8, b8, -, k8⟩ := row_form h.texts
  simp only [Value.slice.injEq] at e7 e8
  obtain ⟨rfl, e7, rfl⟩ := e7
  obtain ⟨rfl, e8, rfl⟩ := e8
  obtain ⟨g7, h7, l7, d7⟩ := k7 m (.pointer (some ⟨q, 0, none⟩)) (by unfold dvals; rw [List.getElem?_map, hq]; rfl)
  obtain ⟨g8, h8, l8, d8⟩ := k8 m (.string t) (by unfold svals; rw [List.getElem?_map, hq]; rfl)
  exact ⟨g7, g8, h7, h8, by omega, by omega, e7, e8, l7, l8, d7, d8⟩

set_option maxRecDepth 100000 in
set_option maxHeartbeats 6400000 in
theorem edits_short (s : ByteArray) (a : Option Addr) (n cap : Nat) (es : List Ed6) (W : World) (hs : ¬ 1500 < s.size) (hn : ¬ 25 < n) (_hcap : n ≤ cap) (hes : es.length = n) (hE : EdsAt a es W) (hx : ∀ e ∈ es, e.x.size ≤ 9223372036854775807) : Calls Tryz.prog 3 #[.string s, .slice a n cap] W (LawPost W) := by
  have hli : ¬ (1500 : Int) < (s.size : Int) := by omega
  have hlm : ¬ (25 : Int) < (n : Int) := by omega
  have HS := Lib.hid (start_all W)
  have HE := Lib.hid hE
  have HES := Lib.hid hes
  have HX := Lib.hid hx
  clear hE hes hx
  go_enter Tryz.func3, Tryz.ntmps3
  go_wp2_with fail
  refine (dnew_any HS.out ⟨#[102]⟩ s (by decide) (by omega) (i := di s.data.toList) rfl rfl fun _ _ => trivial).mono ?_
  rintro e w1 ⟨q0, M1, rfl, hq0, hs1⟩
  have H1 := Lib.hid hs1
  have T0 : Hid (D0.set q0 (di s.data.toList) q0 = some (di s.data.toList)) := Lib.hid (DT.set_same _ _ _)
  obtain ⟨D1, hD1⟩ : ∃ D1, D0.set q0 (di s.data.toList) = D1 := ⟨_, rfl⟩
  rw [hD1] at H1 T0
  clear hs1 hq0 hD1
  have HI0 : Hid (Calls Tryz.prog 8 #[.pointer (some ⟨q0, 0, none⟩), .string s] w1 (fun e w' => e = .returned (.bool true) ∧ Stp W.heap.size M0 D0 W M1 D1 w')) := Lib.hid ((is_any H1.out.all T0.out rfl s rfl).mono (by
    rintro e w' ⟨rfl, hs⟩
    exact ⟨rfl, H1.out.trans hs⟩))
  go_wp2_with (go_at_call 8; (with_reducible refine HI0.out.mono ?_); rintro e w2 ⟨rfl, hs2⟩; have H2 := Lib.hid hs2; clear hs2)
  have HR0 : Hid (WRel W n (.slice (some ⟨w2.heap.size, 0, none⟩) 1 1) (.slice (some ⟨w2.heap.size + 1, 0, none⟩) 1 1) (.int .i64 0) ((w2.alloc (.cells #[.pointer (some ⟨q0, 0, none⟩)] 24)).alloc (.cells #[.string s] 9))) := Lib.hid (by
    have b1 : Below w2.heap.size w2 (w2.alloc (.cells #[.pointer (some ⟨q0, 0, none⟩)] 24)) := (Below.refl _ _).alloc (Nat.le_refl _) _
    have b2 : Below (w2.alloc (.cells #[.pointer (some ⟨q0, 0, none⟩)] 24)).heap.size (w2.alloc (.cells #[.pointer (some ⟨q0, 0, none⟩)] 24)) ((w2.alloc (.cells #[.pointer (some ⟨q0, 0, none⟩)] 24)).alloc (.cells #[.string s] 9)) := (Below.refl _ _).alloc (Nat.le_refl _) _
    have st := (H2.out.trans (Stp.below H2.out.all b1)).trans (Stp.below (Stp.below H2.out.all b1).all b2)
    have hsz : (w2.alloc (.cells #[.pointer (some ⟨q0, 0, none⟩)] 24)).heap.size = w2.heap.size + 1 := by simp
    refine ⟨0, [(q0, s)], M1, D1, _, _, 1, 1, 1, 1, rfl, Nat.zero_le _, rfl, rfl, rfl, rfl, st, ?_, ?_, ?_, by simp, Nat.le_refl _⟩
    · exact own_sm (row_new H2.out.size _ _) (Sm.below b2) (by decide)
    · rw [← hsz]
      exact row_new (Nat.le_trans H2.out.size b1.size) _ _
    · intro q hq
      cases List.mem_singleton.1 hq
      exact ⟨⟨_, T0.out⟩, by simp only; omega⟩)
  clear HI0
  go_loopw [7, 8, 9] (fun v7 v8 i wr => WRel W n v7 v8 i wr) (fun _ _ i _ => n - (intOf i).toNat)
  case atStart => exact HR0.out
  case round =>
    obtain ⟨k, Q, M, D, a7, a8, n7, c7, n8, c8, rfl, hk, rfl, rfl, h7, h8, hw⟩ := hrel
    obtain ⟨wq, hwq⟩ : ∃ wq : World, wr = wq := ⟨_, rfl⟩
    rw [hwq] at hw ⊢
    clear hwq wr
    have HW := Lib.hid hw
    have HST := Lib.hid hw.stp
    have HAW : Hid (∀ (M : Mp) (D : DT) (Y : World), Stp W.heap.size M0 D0 W M D Y → Calls Tryz.prog 6 #[] Y (LawPost W)) := Lib.hid (fun M D Y hY => (awake6_any hY.all).mono (by
      rintro e w' ⟨rfl, M', D', hs⟩
      exact ⟨rfl, (hY.trans hs).ended⟩))
    by_cases hlt : k < n
    · obtain ⟨⟨ek, ef, et, ex⟩, hek⟩ : ∃ e, es[k]? = some e := ⟨_, List.getElem?_eq_getElem (by rw [HES.out]; exact hlt)⟩
      obtain ⟨g, o, rfl, hg, d0, d1, d2, d3⟩ := HE.out k _ hek
      have hxl := HX.out _ (List.mem_of_getElem? hek)
      simp only at d0 d1 d2 d3 hxl
      have hbw := hw.stp.ended
      have e0 := bcell hbw d0 hg
      have e1 := bcell hbw d1 hg
      have e2 := bcell hbw d2 hg
      have e3 := bcell hbw d3 hg
      obtain ⟨m, q, t, hm, hqm⟩ := way_last hw.ne
      obtain ⟨g7, g8, rfl, rfl, hc7, hc8, -, -, l7, l8, y7, y8⟩ := hw.cells hqm
      have hkn : (k : Int) < (n : Int) := by omega
      have hk0 : (0 : Int) ≤ (k : Int) := by omega
      have hko : (0 : Int) ≤ (o : Int) := by omega
      have HAT : Hid (∀ (M : Mp) (D : DT) (Y : World), Stp W.heap.size M0 D0 W M D Y → Y.cell? ⟨g, o + k * 4, none⟩ = some (.int .i64 ek) ∧ Y.cell? ⟨g, o + k * 4 + 1, none⟩ = some (.int .i64 ef) ∧ Y.cell? ⟨g, o + k * 4 + 2, none⟩ = some (.int .i64 et) ∧ Y.cell? ⟨g, o + k * 4 + 3, none⟩ = some (.string ex)) := Lib.hid (fun M D Y hY => ⟨bcell hY.ended d0 hg, bcell hY.ended d1 hg, bcell hY.ended d2 hg, bcell hY.ended d3 hg⟩)
      have hfew := hw.few
      rw [hm] at h7 h8 hfew
      subst h7 h8
      have hm25 : m ≤ 25 := by omega
      have HQM := Lib.hid hqm
      have HM := Lib.hid hm
      clear hbw d0 d1 d2 d3 hw hek hqm hm
      by_cases hx3 : 300 < ex.size
      · as_aux_lemma =>
          have hxi : (300 : Int) < (ex.size : Int) := by omega
          go_wp2_with (go_at_call 6; (with_reducible refine (HAW.out _ _ _ HST.out).mono ?_); rintro e w3 ⟨rfl, hb3⟩)
          go_ret
          exact ⟨rfl, hb3⟩
      · have hxi : ¬ (300 : Int) < (ex.size : Int) := by omega
        by_cases k1 : ek = 1
        · subst k1
          by_cases hok : 0 ≤ ef ∧ ef ≤ (t.size : Int)
          · as_aux_lemma =>
              obtain ⟨j, rfl⟩ : ∃ j : Nat, ef = (j : Int) := ⟨ef.toNat, by omega⟩
              have hj0 : (0 : Int) ≤ (j : Int) := by omega
              have hj1 : (j : Int) ≤ (t.size : Int) := hok.2
              have hjt : j ≤ t.size := by omega
              obtain ⟨⟨P0, hD0⟩, htl⟩ := HW.out.has _ (List.mem_of_getElem? HQM.out)
              simp only at hD0 htl
              have HD0 := Lib.hid hD0
              clear hD0
              obtain ⟨A, hA⟩ : ∃ A, t.extract 0 j = A := ⟨_, rfl⟩
              obtain ⟨Z, hZ⟩ : ∃ Z, t.extract j t.size = Z := ⟨_, rfl⟩
              have hAl : A.data.toList = t.data.toList.take j := by rw [← hA, extract_take]
              have hZl : Z.data.toList = t.data.toList.drop j := by rw [← hZ, extract_drop]
              have hsl1 : ∀ w : World, (Instr.slice 9 (.string t) none (some (.int .i64 (j : Int))) none).run Tryz.prog w = .ok (.string A) w := fun w => hA ▸ slice_to t j hjt w
              have hsl2 : ∀ w : World, (Instr.slice 9 (.string t) (some (.int .i64 (j : Int))) none none).run Tryz.prog w = .ok (.string Z) w := fun w => hZ ▸ slice_from t j hjt w
              have hAs : A.size = j := by rw [← hA, ByteArray.size_extract]; omega
              have hZs : Z.size = t.size - j := by rw [← hZ, ByteArray.size_extract]; omega
              have hcat1 : (A.size + ex.size > 9223372036854775807) = False := eq_false (by omega)
              have hcat2 : ((A ++ ex).size + Z.size > 9223372036854775807) = False := eq_false (by rw [ByteArray.size_append]; omega)
              have hcat3 : (A.size + ex.size + Z.size > 9223372036854775807) = False := eq_false (by omega)
              have hX : (A ++ ex ++ Z).data.toList = t.data.toList.take j ++ (ex.data.toList ++ t.data.toList.drop j) := by rw [bapp, bapp, hAl, hZl, List.append_assoc]
              obtain ⟨X, hXe⟩ : ∃ X, A ++ ex ++ Z = X := ⟨_, rfl⟩
              rw [hXe] at hX
              have hXs : X.size = t.size + ex.size := by rw [← hXe, ByteArray.size_append, ByteArray.size_append]; omega
              have HXL := Lib.hid hX
              have HXE := Lib.hid hXe
              have HXB : Hid (X.size ≤ 1500 + 300 * (k + 1)) := Lib.hid (by omega)
              clear hA hZ hAl hZl hX hAs hZs hXe hXs
              have HSD : Hid (Stp W.heap.size M D wq M D wq.drew) := Lib.hid (Stp.below HST.out.all (Below.refl _ _).drew)
              have HI : Hid (Calls Tryz.prog 9 #[.pointer (some ⟨q, 0, none⟩), .int .i64 (j : Int), .string ex] wq.drew (NewPost W.heap.size M D wq.drew ⟨⟨#[102]⟩, X.data.toList, LeL X.data.toList⟩)) := Lib.hid (by
                have htl2 : t.data.toList.length = t.size := len_byte t
                have hxl2 : X.data.toList.length = X.size := len_byte X
                have hxb := HXB.out
                exact dinsert_any HSD.out.all HD0.out j ex (by show j ≤ t.data.toList.length; omega) (by show t.data.toList.length + _ ≤ _; omega) rfl HXL.out (le_of_edit (s := t.data.toList) (t := X.data.toList) (ins := ex.data.toList) (Nat.le_refl _) (by omega) (by omega) (by omega) HXL.out))
              have HS0 : Hid (wq.drew.cell? ⟨g, o + k * 4 + 1, none⟩ = some (.int .i64 (j : Int)) ∧ wq.drew.cell? ⟨g, o + k * 4 + 3, none⟩ = some (.string ex)) := Lib.hid ⟨e1, e3⟩
              go_wp2
              go_region_held3 (fun w' => w'.cell? ⟨g, o + k * 4 + 1, none⟩ = some (.int .i64 (j : Int)) ∧ w'.cell? ⟨g, o + k * 4 + 3, none⟩ = some (.string ex))
                (first | exact HS0.out | exact HS1.out)
                (first | (go_at_call 9; (with_reducible refine HI.out.mono ?_); rintro e w3 ⟨q', M', rfl, hq', hs3⟩; have H3 := Lib.hid (HSD.out.trans hs3); have hat := HAT.out _ _ _ (HST.out.trans H3.out); have HS1 : Hid (w3.cell? ⟨g, o + k * 4 + 1, none⟩ = some (.int .i64 (j : Int)) ∧ w3.cell? ⟨g, o + k * 4 + 3, none⟩ = some (.string ex)) := Lib.hid ⟨hat.2.1, hat.2.2.2⟩; clear hs3 hq' hat))
              obtain ⟨D', hD'⟩ : ∃ D', D.set q' ⟨⟨#[102]⟩, X.data.toList, LeL X.data.toList⟩ = D' := ⟨_, rfl⟩
              have T3 : Hid (D' q' = some ⟨⟨#[102]⟩, X.data.toList, LeL X.data.toList⟩) := Lib.hid (by rw [← hD']; exact DT.set_same _ _ _)
              rw [hD'] at H3
              clear hD'
              have hat3 := HAT.out _ _ _ (HST.out.trans H3.out)
              obtain ⟨x0, x1, x2, x3⟩ := hat3
              have HX13 := Lib.hid (And.intro x1 x3)
              go_wp2
              have HS2 : Hid (w3.drew.cell? ⟨g, o + k * 4 + 1, none⟩ = some (.int .i64 (j : Int)) ∧ w3.drew.cell? ⟨g, o + k * 4 + 3, none⟩ = some (.string ex)) := Lib.hid HX13.out
              go_region_held3 (fun w' => w'.cell? ⟨g, o + k * 4 + 1, none⟩ = some (.int .i64 (j : Int)) ∧ w'.cell? ⟨g, o + k * 4 + 3, none⟩ = some (.string ex)) (exact HS2.out) (fail)
              rw [HXE.out]
              obtain ⟨w4, hw4⟩ : ∃ w4, w3.drew = w4 := ⟨_, rfl⟩
              have H4 : Hid (Stp W.heap.size M D wq M' D' w4) := Lib.hid (by rw [← hw4]; exact H3.out.trans (Stp.below H3.out.all (Below.refl _ _).drew))
              rw [hw4]
              clear hw4 x0 x1 x2 x3 hsl1 hsl2 hcat1 hcat2 hcat3
              obtain ⟨L, hL⟩ : ∃ L, (FL X.data.toList).lines.length = L := ⟨_, rfl⟩
              have hLb : L ≤ 70000 := by rw [← hL]; exact FL_many (by rw [len_byte]; have := HXB.out; omega)
              have HCT : Hid (∀ Y : World, Stp W.heap.size M D wq M' D' Y → Calls Tryz.prog 8 #[.pointer (some ⟨q', 0, none⟩), .string X] Y (fun e w' => e = .returned (.bool true) ∧ Stp W.heap.size M D wq M' D' w') ∧ Calls Tryz.prog 11 #[.pointer (some ⟨q', 0, none⟩)] Y (fun e w' => ∃ c : Nat, e = .returned (.int .i64 (c : Int)) ∧ c ≤ L ∧ Stp W.heap.size M D wq M' D' w') ∧ Calls Tryz.prog 12 #[.pointer (some ⟨q', 0, none⟩)] Y (fun e w' => ∃ (a : Option Addr) (cap : Nat), e = .returned (.slice a L cap) ∧ Stp W.heap.size M D wq M' D' w')) := Lib.hid (fun Y hY => ⟨(is_any hY.all T3.out rfl X rfl).mono (by
                rintro e w' ⟨rfl, hs⟩
                exact ⟨rfl, hY.trans hs⟩), (dwork_any hY.all T3.out).mono (by
                rintro e w' ⟨c, rfl, hc, hs⟩
                exact ⟨c, rfl, hL ▸ hc, hY.trans hs⟩), (dlines_any hY.all T3.out).mono (by
                rintro e w' ⟨a, n, cap, rfl, hn, -, hs⟩
                have hn2 : n = L := hL ▸ hn
                subst hn2
                exact ⟨a, cap, rfl, hY.trans hs⟩)⟩)
              have hw1 : IntKind.i64.wrap ((L : Int) + 3) = (L : Int) + 3 := IntWalk.i64_in _ (by omega)
              clear hL
              go_wp2_with (first
                | (go_at_call 8; (with_reducible refine (HCT.out _ H4.out).1.mono ?_); rintro ee w5 ⟨rfl, hs5⟩; have H5 := Lib.hid hs5; clear hs5)
                | (go_at_call 11; (with_reducible refine (HCT.out _ H5.out).2.1.mono ?_); rintro ee w6 ⟨cA, rfl, hcA, hs6⟩; have H6 := Lib.hid hs6; clear hs6)
                | (go_at_call 11; (with_reducible refine (HCT.out _ H6.out).2.1.mono ?_); rintro ee w7 ⟨cB, rfl, hcB, hs7⟩; have H7 := Lib.hid hs7; have hcL : ¬ ((L : Int) + 3 < (cB : Int)) := (by omega); clear hs7)
                | (go_at_call 12; (with_reducible refine (HCT.out _ H7.out).2.2.mono ?_); rintro ee w8 ⟨la, lc, rfl, hs8⟩; have HWA := Lib.hid (HW.out.step (hs8) ); clear hs8)
                | (at_builtin; refine wpList_append_ex rfl (.tmp 220) (.tmp 222) 29 rfl _ (dadd1_ex (W := W) (n := m + 1) (xs := dvals Q) (q := q') (HWA.out.first HM.out).1 (src_row (heap_alloc_at rfl) rfl rfl) (by omega) (HWA.out.first HM.out).2) ?_; rintro v9 w9 ha9; have HA9 := Lib.hid ha9; obtain ⟨b9, n9, c9, rfl, -⟩ := ha9)
                | (at_builtin; refine wpList_append_ex rfl (.tmp 224) (.tmp 226) 30 rfl _ (sadd1_ex (W := W) (n := m + 1) (xs := svals Q) (s := X) (HWA.out.mid HM.out HA9.out).1 (src_row (heap_alloc_at rfl) rfl rfl) (by omega) (HWA.out.mid HM.out HA9.out).2) ?_; rintro v10 w10 ha10; have HA10 := Lib.hid ha10; obtain ⟨b10, n10, c10, rfl, -⟩ := ha10))
              go_roundw
              case rel =>
                refine HWA.out.add HM.out T3.out HXB.out hlt HA9.out HA10.out ?_
                go_num
              case measure => simp [intOf]; omega
          · as_aux_lemma =>
              obtain ⟨⟨P0, hD0⟩, htl⟩ := HW.out.has _ (List.mem_of_getElem? HQM.out)
              simp only at hD0 htl
              have HD0 := Lib.hid hD0
              clear hD0
              have HSD : Hid (Stp W.heap.size M D wq M D wq.drew) := Lib.hid (Stp.below HST.out.all (Below.refl _ _).drew)
              have HI : Hid (Calls Tryz.prog 9 #[.pointer (some ⟨q, 0, none⟩), .int .i64 ef, .string ex] wq.drew (RefPost wq.drew)) := Lib.hid (dinsert_arg HSD.out.all HD0.out ef ex (by show ¬ (0 ≤ ef ∧ ef ≤ (t.data.toList.length : Int)); rw [len_byte]; exact hok))
              have HS0 : Hid (wq.drew.cell? ⟨g, o + k * 4 + 1, none⟩ = some (.int .i64 ef) ∧ wq.drew.cell? ⟨g, o + k * 4 + 3, none⟩ = some (.string ex)) := Lib.hid ⟨e1, e3⟩
              have HNX : Hid (Way W (k + 1) Q M D (.slice (some ⟨g7, 0, none⟩) (m + 1) c7) (.slice (some ⟨g8, 0, none⟩) (m + 1) c8) wq.drew) := Lib.hid (HW.out.step HSD.out).next
              have hbad : ¬ 0 ≤ ef ∨ (0 ≤ ef ∧ ¬ ef ≤ (t.size : Int)) := by omega
              clear hok
              have hbb : ¬ 0 ≤ ef ∨ (0 ≤ ef ∧ decide (ef ≤ (t.size : Int)) = false) := hbad.imp id fun h => ⟨h.1, decide_eq_false h.2⟩
              clear hbad
              go_wp2
              go_region_held3 (fun w' => w'.cell? ⟨g, o + k * 4 + 1, none⟩ = some (.int .i64 ef) ∧ w'.cell? ⟨g, o + k * 4 + 3, none⟩ = some (.string ex))
                (exact HS0.out)
                (first | (go_at_call 9; (with_reducible refine HI.out.mono ?_); rintro e w3 ⟨rfl, rfl⟩))
              have hS := HS0.out
              obtain ⟨x1, x3⟩ := hS
              rcases hbb with hb | ⟨hb, hb2⟩
              all_goals
                go_wp2
                go_roundw
                case rel => exact ⟨k + 1, Q, M, D, _, _, m + 1, c7, m + 1, c8, by go_num, hlt, rfl, rfl, HM.out.symm, HM.out.symm, HNX.out⟩
                case measure => simp [intOf]; omega
        · by_cases k2 : ek = 2
          · subst k2
            by_cases hok : 0 ≤ ef ∧ ef ≤ et ∧ et ≤ (t.size : Int)
            · as_aux_lemma =>
                obtain ⟨j, rfl⟩ : ∃ j : Nat, ef = (j : Int) := ⟨ef.toNat, by omega⟩
                obtain ⟨l, rfl⟩ : ∃ l : Nat, et = (l : Int) := ⟨et.toNat, by omega⟩
                have hj0 : (0 : Int) ≤ (j : Int) := by omega
                have hj1 : (j : Int) ≤ (l : Int) := hok.2.1
                have hj2 : (l : Int) ≤ (t.size : Int) := hok.2.2
                have hjt : j ≤ t.size := by omega
                have hlt2 : l ≤ t.size := by omega
                obtain ⟨⟨P0, hD0⟩, htl⟩ := HW.out.has _ (List.mem_of_getElem? HQM.out)
                simp only at hD0 htl
                have HD0 := Lib.hid hD0
                clear hD0
                obtain ⟨A, hA⟩ : ∃ A, t.extract 0 j = A := ⟨_, rfl⟩
                obtain ⟨Z, hZ⟩ : ∃ Z, t.extract l t.size = Z := ⟨_, rfl⟩
                have hAl : A.data.toList = t.data.toList.take j := by rw [← hA, extract_take]
                have hZl : Z.data.toList = t.data.toList.drop l := by rw [← hZ, extract_drop]
                have hsl1 : ∀ w : World, (Instr.slice 9 (.string t) none (some (.int .i64 (j : Int))) none).run Tryz.prog w = .ok (.string A) w := fun w => hA ▸ slice_to t j hjt w
                have hsl2 : ∀ w : World, (Instr.slice 9 (.string t) (some (.int .i64 (l : Int))) none none).run Tryz.prog w = .ok (.string Z) w := fun w => hZ ▸ slice_from t l hlt2 w
                have hAs : A.size = j := by rw [← hA, ByteArray.size_extract]; omega
                have hZs : Z.size = t.size - l := by rw [← hZ, ByteArray.size_extract]; omega
                have hcat1 : (A.size + Z.size > 9223372036854775807) = False := eq_false (by omega)
                have hX : (A ++ Z).data.toList = t.data.toList.take j ++ ([] ++ t.data.toList.drop l) := by rw [bapp, hAl, hZl, List.nil_append]
                obtain ⟨X, hXe⟩ : ∃ X, A ++ Z = X := ⟨_, rfl⟩
                rw [hXe] at hX
                have hXs : X.size ≤ t.size := by rw [← hXe, ByteArray.size_append]; omega
                have HXL := Lib.hid hX
                have HXE := Lib.hid hXe
                have HXB : Hid (X.size ≤ 1500 + 300 * (k + 1)) := Lib.hid (by omega)
                clear hA hZ hAl hZl hX hAs hZs hXe hXs
                have HSD : Hid (Stp W.heap.size M D wq M D wq.drew) := Lib.hid (Stp.below HST.out.all (Below.refl _ _).drew)
                have HI : Hid (Calls Tryz.prog 10 #[.pointer (some ⟨q, 0, none⟩), .int .i64 (j : Int), .int .i64 (l : Int)] wq.drew (NewPost W.heap.size M D wq.drew ⟨⟨#[102]⟩, X.data.toList, LeL X.data.toList⟩)) := Lib.hid (by
                  have htl2 : t.data.toList.length = t.size := len_byte t
                  have hxl2 : X.data.toList.length = X.size := len_byte X
                  have hxb := HXB.out
                  exact ddelete_any HSD.out.all HD0.out j l (by omega) (by show l ≤ t.data.toList.length; omega) rfl HXL.out (le_of_edit (s := t.data.toList) (t := X.data.toList) (ins := []) (by omega) (by omega) (by omega) (by omega) HXL.out))
                have HS0 : Hid (wq.drew.cell? ⟨g, o + k * 4 + 1, none⟩ = some (.int .i64 (j : Int)) ∧ wq.drew.cell? ⟨g, o + k * 4 + 2, none⟩ = some (.int .i64 (l : Int))) := Lib.hid ⟨e1, e2⟩
                go_wp2
                go_region_held3 (fun w' => w'.cell? ⟨g, o + k * 4 + 1, none⟩ = some (.int .i64 (j : Int)) ∧ w'.cell? ⟨g, o + k * 4 + 2, none⟩ = some (.int .i64 (l : Int)))
                  (first | exact HS0.out | exact HS1.out)
                  (first | (go_at_call 10; (with_reducible refine HI.out.mono ?_); rintro e w3 ⟨q', M', rfl, hq', hs3⟩; have H3 := Lib.hid (HSD.out.trans hs3); have hat := HAT.out _ _ _ (HST.out.trans H3.out); have HS1 : Hid (w3.cell? ⟨g, o + k * 4 + 1, none⟩ = some (.int .i64 (j : Int)) ∧ w3.cell? ⟨g, o + k * 4 + 2, none⟩ = some (.int .i64 (l : Int))) := Lib.hid ⟨hat.2.1, hat.2.2.1⟩; clear hs3 hq' hat))
                obtain ⟨D', hD'⟩ : ∃ D', D.set q' ⟨⟨#[102]⟩, X.data.toList, LeL X.data.toList⟩ = D' := ⟨_, rfl⟩
                have T3 : Hid (D' q' = some ⟨⟨#[102]⟩, X.data.toList, LeL X.data.toList⟩) := Lib.hid (by rw [← hD']; exact DT.set_same _ _ _)
                rw [hD'] at H3
                clear hD'
                have hat3 := HAT.out _ _ _ (HST.out.trans H3.out)
                obtain ⟨x0, x1, x2, x3⟩ := hat3
                have HX13 := Lib.hid (And.intro x1 x2)
                have HS2 : Hid (∀ Y, Stp W.heap.size M D wq M' D' Y → Y.cell? ⟨g, o + k * 4 + 1, none⟩ = some (.int .i64 (j : Int)) ∧ Y.cell? ⟨g, o + k * 4 + 2, none⟩ = some (.int .i64 (l : Int))) := Lib.hid (fun Y hY => ⟨(HAT.out _ _ _ (HST.out.trans hY)).2.1, (HAT.out _ _ _ (HST.out.trans hY)).2.2.1⟩)
                have HS3 : Hid (w3.drew.cell? ⟨g, o + k * 4 + 1, none⟩ = some (.int .i64 (j : Int)) ∧ w3.drew.cell? ⟨g, o + k * 4 + 2, none⟩ = some (.int .i64 (l : Int))) := Lib.hid HX13.out
                go_wp2
                go_region_held3 (fun w' => w'.cell? ⟨g, o + k * 4 + 1, none⟩ = some (.int .i64 (j : Int)) ∧ w'.cell? ⟨g, o + k * 4 + 2, none⟩ = some (.int .i64 (l : Int))) (exact HS3.out) (fail)
                go_wp2
                go_region_held3 (fun w' => w'.cell? ⟨g, o + k * 4 + 1, none⟩ = some (.int .i64 (j : Int)) ∧ w'.cell? ⟨g, o + k * 4 + 2, none⟩ = some (.int .i64 (l : Int))) (first | exact HS3.out) (fail)
                rw [HXE.out]
                obtain ⟨w4, hw4⟩ : ∃ w4, w3.drew.drew = w4 := ⟨_, rfl⟩
                have H4 : Hid (Stp W.heap.size M D wq M' D' w4) := Lib.hid (by rw [← hw4]; exact H3.out.trans (Stp.below H3.out.all (Below.refl _ _).drew.drew))
                rw [hw4]
                clear hw4 x0 x1 x2 x3 hsl1 hsl2 hcat1
                obtain ⟨L, hL⟩ : ∃ L, (FL X.data.toList).lines.length = L := ⟨_, rfl⟩
                have hLb : L ≤ 70000 := by rw [← hL]; exact FL_many (by rw [len_byte]; have := HXB.out; omega)
                have HCT : Hid (∀ Y : World, Stp W.heap.size M D wq M' D' Y → Calls Tryz.prog 8 #[.pointer (some ⟨q', 0, none⟩), .string X] Y (fun e w' => e = .returned (.bool true) ∧ Stp W.heap.size M D wq M' D' w') ∧ Calls Tryz.prog 11 #[.pointer (some ⟨q', 0, none⟩)] Y (fun e w' => ∃ c : Nat, e = .returned (.int .i64 (c : Int)) ∧ c ≤ L ∧ Stp W.heap.size M D wq M' D' w') ∧ Calls Tryz.prog 12 #[.pointer (some ⟨q', 0, none⟩)] Y (fun e w' => ∃ (a : Option Addr) (cap : Nat), e = .returned (.slice a L cap) ∧ Stp W.heap.size M D wq M' D' w')) := Lib.hid (fun Y hY => ⟨(is_any hY.all T3.out rfl X rfl).mono (by
                  rintro e w' ⟨rfl, hs⟩
                  exact ⟨rfl, hY.trans hs⟩), (dwork_any hY.all T3.out).mono (by
                  rintro e w' ⟨c, rfl, hc, hs⟩
                  exact ⟨c, rfl, hL ▸ hc, hY.trans hs⟩), (dlines_any hY.all T3.out).mono (by
                  rintro e w' ⟨a, n, cap, rfl, hn, -, hs⟩
                  have hn2 : n = L := hL ▸ hn
                  subst hn2
                  exact ⟨a, cap, rfl, hY.trans hs⟩)⟩)
                have hw1 : IntKind.i64.wrap ((L : Int) + 3) = (L : Int) + 3 := IntWalk.i64_in _ (by omega)
                clear hL
                go_wp2_with (first
                  | (go_at_call 8; (with_reducible refine (HCT.out _ H4.out).1.mono ?_); rintro ee w5 ⟨rfl, hs5⟩; have H5 := Lib.hid hs5; clear hs5)
                  | (go_at_call 11; (with_reducible refine (HCT.out _ H5.out).2.1.mono ?_); rintro ee w6 ⟨cA, rfl, hcA, hs6⟩; have H6 := Lib.hid hs6; clear hs6)
                  | (go_at_call 11; (with_reducible refine (HCT.out _ H6.out).2.1.mono ?_); rintro ee w7 ⟨cB, rfl, hcB, hs7⟩; have H7 := Lib.hid hs7; have hcL : ¬ ((L : Int) + 3 < (cB : Int)) := (by omega); clear hs7)
                  | (go_at_call 12; (with_reducible refine (HCT.out _ H7.out).2.2.mono ?_); rintro ee w8 ⟨la, lc, rfl, hs8⟩; have HWA := Lib.hid (HW.out.step (hs8) ); clear hs8)
                  | (at_builtin; refine wpList_append_ex rfl (.tmp 220) (.tmp 222) 29 rfl _ (dadd1_ex (W := W) (n := m + 1) (xs := dvals Q) (q := q') (HWA.out.first HM.out).1 (src_row (heap_alloc_at rfl) rfl rfl) (by omega) (HWA.out.first HM.out).2) ?_; rintro v9 w9 ha9; have HA9 := Lib.hid ha9; obtain ⟨b9, n9, c9, rfl, -⟩ := ha9)
                  | (at_builtin; refine wpList_append_ex rfl (.tmp 224) (.tmp 226) 30 rfl _ (sadd1_ex (W := W) (n := m + 1) (xs := svals Q) (s := X) (HWA.out.mid HM.out HA9.out).1 (src_row (heap_alloc_at rfl) rfl rfl) (by omega) (HWA.out.mid HM.out HA9.out).2) ?_; rintro v10 w10 ha10; have HA10 := Lib.hid ha10; obtain ⟨b10, n10, c10, rfl, -⟩ := ha10))
                go_roundw
                case rel =>
                  refine HWA.out.add HM.out T3.out HXB.out hlt HA9.out HA10.out ?_
                  go_num
                case measure => simp [intOf]; omega
            · as_aux_lemma =>
                obtain ⟨⟨P0, hD0⟩, htl⟩ := HW.out.has _ (List.mem_of_getElem? HQM.out)
                simp only at hD0 htl
                have HD0 := Lib.hid hD0
                clear hD0
                have HSD : Hid (Stp W.heap.size M D wq M D wq.drew) := Lib.hid (Stp.below HST.out.all (Below.refl _ _).drew)
                have HI : Hid (Calls Tryz.prog 10 #[.pointer (some ⟨q, 0, none⟩), .int .i64 ef, .int .i64 et] wq.drew (RefPost wq.drew)) := Lib.hid (ddelete_arg HSD.out.all HD0.out ef et (by show ¬ (0 ≤ ef ∧ ef ≤ et ∧ et ≤ (t.data.toList.length : Int)); rw [len_byte]; exact hok))
                have HS0 : Hid (wq.drew.cell? ⟨g, o + k * 4 + 1, none⟩ = some (.int .i64 ef) ∧ wq.drew.cell? ⟨g, o + k * 4 + 2, none⟩ = some (.int .i64 et)) := Lib.hid ⟨e1, e2⟩
                have HNX : Hid (∀ z, Way W (k + 1) Q M D (.slice (some ⟨g7, 0, none⟩) (m + 1) c7) (.slice (some ⟨g8, 0, none⟩) (m + 1) c8) (wq.drewN z)) := Lib.hid (fun z => (HW.out.step (Stp.below HST.out.all (Below.of_drews _ _))).next)
                have hbb : decide (0 ≤ ef) = false ∨ (0 ≤ ef ∧ decide (ef ≤ et) = false) ∨ (0 ≤ ef ∧ ef ≤ et ∧ decide (et ≤ (t.size : Int)) = false) := by
                  by_cases h1 : 0 ≤ ef
                  · by_cases h2 : ef ≤ et
                    · exact .inr (.inr ⟨h1, h2, decide_eq_false fun h3 => hok ⟨h1, h2, h3⟩⟩)
                    · exact .inr (.inl ⟨h1, decide_eq_false h2⟩)
                  · exact .inl (decide_eq_false h1)
                clear hok
                go_wp2
                go_region_held3 (fun w' => w'.cell? ⟨g, o + k * 4 + 1, none⟩ = some (.int .i64 ef) ∧ w'.cell? ⟨g, o + k * 4 + 2, none⟩ = some (.int .i64 et))
                  (exact HS0.out)
                  (first | (go_at_call 10; (with_reducible refine HI.out.mono ?_); rintro e w3 ⟨rfl, rfl⟩))
                have hS := HS0.out
                obtain ⟨x1, x2⟩ := hS
                rcases hbb with hb | ⟨hb, hb2⟩ | ⟨hb, hb2, hb3⟩
                all_goals
                  go_wp2
                  go_quiet (fail)
                  go_wp2
                  go_roundw
                  case rel => exact ⟨k + 1, Q, M, D, _, _, m + 1, c7, m + 1, c8, by go_num, hlt, rfl, rfl, HM.out.symm, HM.out.symm, HNX.out _⟩
                  case measure => simp [intOf]; omega
          · as_aux_lemma =>
              have g1 : (ek == 1) = false := by rw [beq_eq_false_iff_ne]; exact k1
              have g2 : (ek == 2) = false := by rw [beq_eq_false_iff_ne]; exact k2
              go_wp2
              go_roundw
              case rel => exact ⟨k + 1, Q, M, D, _, _, m + 1, c7, m + 1, c8, by go_num, hlt, rfl, rfl, HM.out.symm, HM.out.symm, HW.out.next⟩
              case measure => simp [intOf]; omega
    · as_aux_lemma =>
        have hkn : ¬ (k : Int) < (n : Int) := by omega
        obtain ⟨m, q, t, hm, hqm⟩ := way_last hw.ne
        obtain ⟨g7, g8, rfl, rfl, hc7, hc8, -, -, l7, l8, y7, y8⟩ := hw.cells hqm
        rw [hm] at h7 h8
        subst h7 h8
        have hm25 : m ≤ 25 := by have := hw.few; omega
        have HM := Lib.hid hm
        clear hw hqm y7 y8 l7 l8 hm
        go_wp2
        go_loopw [15] (fun i wr => ∃ z : Nat, i = .int .i64 (z : Int) ∧ z ≤ m + 1 ∧ Stp W.heap.size M D wq M D wr) (fun i _ => m + 1 - (intOf i).toNat)
        case atStart => exact ⟨0, rfl, Nat.zero_le _, Stp.refl HW.out.stp.all⟩
        case round =>
          obtain ⟨z, rfl, hz, hsz⟩ := hrel
          obtain ⟨wz, hwz⟩ : ∃ wz : World, wr = wz := ⟨_, rfl⟩
          rw [hwz] at hsz ⊢
          clear hwz wr
          have hwz := HW.out.step hsz
          have HZ := Lib.hid hwz
          have HSZ := Lib.hid hsz
          clear hsz
          by_cases hzl : z < m + 1
          · obtain ⟨⟨q1, t1⟩, hq1⟩ : ∃ x, Q[z]? = some x := ⟨_, List.getElem?_eq_getElem (by rw [HM.out]; exact hzl)⟩
            obtain ⟨g7', g8', e7, e8, -, -, -, -, l7, l8, y7, y8⟩ := hwz.cells hq1
            simp only [Option.some.injEq, Addr.mk.injEq, and_true] at e7 e8
            subst e7 e8
            obtain ⟨⟨P1, hD1⟩, -⟩ := hwz.has _ (List.mem_of_getElem? hq1)
            have hzi : (z : Int) < ((m + 1 : Nat) : Int) := by omega
            have hzi2 : (z : Int) < (m : Int) + 1 := by omega
            have hz0 : (0 : Int) ≤ (z : Int) := by omega
            have HSD : Hid (Stp W.heap.size M D wq M D wz.drew) := Lib.hid (HSZ.out.trans (Stp.below HSZ.out.all (Below.refl _ _).drew))
            have HI : Hid (Calls Tryz.prog 8 #[.pointer (some ⟨q1, 0, none⟩), .string t1] wz.drew (fun e w' => e = .returned (.bool true) ∧ Stp W.heap.size M D wq M D w')) := Lib.hid ((is_any HSD.out.all hD1 rfl t1 rfl).mono (by
              rintro e w' ⟨rfl, hs⟩
              exact ⟨rfl, HSD.out.trans hs⟩))
            have HS0 : Hid (wz.drew.cell? ⟨g7, z, none⟩ = some (.pointer (some ⟨q1, 0, none⟩)) ∧ wz.drew.cell? ⟨g8, z, none⟩ = some (.string t1)) := Lib.hid ⟨y7, y8⟩
            have HSX : Hid (∀ Y, Stp W.heap.size M D wq M D Y → Y.cell? ⟨g7, z, none⟩ = some (.pointer (some ⟨q1, 0, none⟩)) ∧ Y.cell? ⟨g8, z, none⟩ = some (.string t1)) := Lib.hid (fun Y hY => by
              obtain ⟨x7, x8, f7, f8, -, -, -, -, -, -, z7, z8⟩ := (HW.out.step hY).cells hq1
              simp only [Option.some.injEq, Addr.mk.injEq, and_true] at f7 f8
              subst f7 f8
              exact ⟨z7, z8⟩)
            clear hwz hq1 hD1
            go_wp2
            go_region_held3 (fun w' => w'.cell? ⟨g7, z, none⟩ = some (.pointer (some ⟨q1, 0, none⟩)) ∧ w'.cell? ⟨g8, z, none⟩ = some (.string t1))
              (first | exact HS0.out | exact HS1.out)
              (first | (go_at_call 8; (with_reducible refine HI.out.mono ?_); rintro e w3 ⟨rfl, hs3⟩; have H3 := Lib.hid hs3; have HS1 := Lib.hid (HSX.out w3 hs3); clear hs3))
            go_wp2
            go_roundw
            case rel => exact ⟨z + 1, by go_num, hzl, H3.out⟩
            case measure => simp [intOf]; omega
          · have hzi : ¬ (z : Int) < ((m + 1 : Nat) : Int) := by omega
            have hzi2 : ¬ (z : Int) < (m : Int) + 1 := by omega
            clear hwz
            go_wp2_with (go_at_call 6; (with_reducible refine (HAW.out _ _ _ HZ.out.stp).mono ?_); rintro e w3 ⟨rfl, hb3⟩)
            go_ret
            exact ⟨rfl, hb3⟩

theorem law_edits (s : ByteArray) (a : Option Addr) (n cap : Nat) (es : List Ed6) (W : World) (hs : s.size ≤ maxLen) (hn : n ≤ 9223372036854775807) (hcap : n ≤ cap) (hes : es.length = n) (hE : EdsAt a es W) (hx : ∀ e ∈ es, e.x.size ≤ 9223372036854775807) : Calls Tryz.prog 3 #[.string s, .slice a n cap] W (LawPost W) := by
  by_cases h1 : 1500 < s.size
  · exact edits_longA s a n cap W h1 hs
  · by_cases h2 : 25 < n
    · exact edits_longB s a n cap W h1 h2 hn
    · exact edits_short s a n cap es W h1 h2 hcap hes hE hx

end Go.Proofs.YtpnboieppkjfnaaGreat
