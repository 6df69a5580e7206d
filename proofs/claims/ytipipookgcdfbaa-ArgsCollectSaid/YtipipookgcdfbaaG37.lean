/-
  Texts of the proof, put together: AgStr, AgRStr.
-/
import Derived.Test.YtipipookgcdfbaaG36

/-
  Tokens as a string: the project's Stringize, walked.
-/
namespace Go.Proofs.Ytipipookgcdfbaa
open Go.RowKit

def escX (t : Xt) : Xt := if t.k = 4 ∨ t.k = 3 then { t with x := ⟨(quoL t.x.data.toList).toArray⟩ } else t
theorem esc_sp (t : Xt) : (escX t).sp = t.sp := by unfold escX; split <;> rfl
theorem esc_ss (t : Xt) : (escX t).ss = t.ss := by unfold escX; split <;> rfl
theorem esc_x (t : Xt) : (escX t).x.data.toList = strL1 t := by unfold escX strL1; split <;> simp
theorem esc_more : ∀ T : List Xt, moreT (T.map escX) = strL2 T
  | [] => rfl
  | t :: r => by
    show (if (escX t).sp then 32 :: (escX t).x.data.toList else (escX t).x.data.toList) ++ moreT (r.map escX) = (if t.sp then 32 :: strL1 t else strL1 t) ++ strL2 r
    rw [esc_more r, esc_sp, esc_x]
theorem string_is (T : List Xt) : stringL T = 34 :: (textT (T.map escX) ++ [34]) := by
  cases T with
  | nil => rfl
  | cons t r =>
    show 34 :: (strL1 t ++ strL2 r ++ [34]) = 34 :: ((escX t).x.data.toList ++ moreT (r.map escX) ++ [34])
    rw [esc_more, esc_x]

theorem xcells_set1 (t : Xt) (sv : Value) (x : ByteArray) : ∀ (P : List (Xt × Value)) (k : Nat), P[k]? = some (t, sv) → (xcells P).set (k * 8 + 1) (.string x) = xcells (P.set k ({ t with x := x }, sv))
  | [], k, h => by simp at h
  | p :: P, 0, h => by
    simp only [List.getElem?_cons_zero, Option.some.injEq] at h
    subst h
    rfl
  | p :: P, k + 1, h => by
    have ih := xcells_set1 t sv x P k (by simpa using h)
    have e : xcells (p :: P) = xcell p ++ xcells P := rfl
    rw [e, List.set_append_right _ _ (by simp [xcell]; omega)]
    rw [show (k + 1) * 8 + 1 - (xcell p).length = k * 8 + 1 from by simp [xcell]; omega, ih]
    rfl
theorem ClT.putx {W : World} {T : List Xt} {n c g k : Nat} {P : List (Xt × Value)} {w : World} {t : Xt} {sv : Value} (h : ClT W T (some ⟨g, 0, none⟩) n c P w) (hk : P[k]? = some (t, sv)) (x : ByteArray) :
    ClT W (T.set k { t with x := x }) (some ⟨g, 0, none⟩) n c (P.set k ({ t with x := x }, sv)) (w.setCell ⟨g, k * 8 + 1, none⟩ (.string x)) := by
  have hmem := List.mem_of_getElem? hk
  refine ⟨by rw [List.map_set, h.map], ?_, fun p hp => ?_, fun p hp g' hg' => ?_⟩
  · rw [← xcells_set1 t sv x P k hk]
    exact up_setX h.up _ _
  · rcases List.mem_or_eq_of_mem_set hp with hp | rfl
    · exact (h.sits p hp).set (h.off p hp g rfl) _ _
    · exact (h.sits (t, sv) hmem).set (h.off (t, sv) hmem g rfl) _ _
  · rcases List.mem_or_eq_of_mem_set hp with hp | rfl
    · exact h.off p hp g' hg'
    · exact h.off (t, sv) hmem g' hg'
theorem esc_next {T : List Xt} {k : Nat} {t : Xt} (ht : T[k]? = some t) : ((T.take k).map escX ++ T.drop k).set k (escX t) = (T.take (k + 1)).map escX ++ T.drop (k + 1) := by
  have hl := (List.getElem?_eq_some_iff.1 ht).1
  have hk : ((T.take k).map escX).length = k := by rw [List.length_map, List.length_take]; omega
  rw [List.set_append_right _ _ (by omega), hk, Nat.sub_self, take_next ht, List.map_append, drop_at ht]
  simp
theorem esc_same {T : List Xt} {k : Nat} {t : Xt} (ht : T[k]? = some t) (he : ¬ (t.k = 4 ∨ t.k = 3)) : (T.take k).map escX ++ T.drop k = (T.take (k + 1)).map escX ++ T.drop (k + 1) := by
  rw [take_next ht, List.map_append, drop_at ht]
  have : escX t = t := by unfold escX; rw [if_neg he]
  simp [this]

def PsRel (w : World) (T : List Xt) (a : Option Addr) (n c : Nat) (t9 : Value) (wr : World) : Prop :=
  ∃ (k : Nat) (P : List (Xt × Value)), t9 = .int .i64 (k : Int) ∧ k ≤ n ∧ ClT w ((T.take k).map escX ++ T.drop k) a n c P wr

theorem str_fit1 (X : ByteArray) (h : X.size ≤ 2000000) : (1 + X.size > 9223372036854775807) = False := by simp; omega
theorem str_fit2 (X : ByteArray) (h : X.size ≤ 2000000) : (1 + X.size + 1 > 9223372036854775807) = False := by simp; omega
theorem str_of {X : ByteArray} {T : List Xt} (h : X = ⟨(textT (T.map escX)).toArray⟩) : (⟨#[34]⟩ ++ X ++ ⟨#[34]⟩ : ByteArray) = ⟨(stringL T).toArray⟩ := by
  subst h
  rw [string_is]
  apply ByteArray.ext
  simp

set_option maxRecDepth 100000 in
set_option maxHeartbeats 3200000 in
theorem pstr_any {T : List Xt} {v : Value} {w : World} (h : ToksX T v w) (hT : T.length ≤ 500000) (hz : (textT (T.map escX)).length ≤ 1000000) (hx : ∀ t ∈ T, t.x.size ≤ 1000000) : Calls Try.prog 20 #[v] w (StrNew ⟨(stringL T).toArray⟩ w) := by
  obtain ⟨a, n, cap, rfl⟩ := h.form
  obtain ⟨hn, -, -⟩ := h.len
  have HCL := Lib.hid (cloneToks_any h hT)
  have HN := Lib.hid hn
  have HZ := Lib.hid hz
  have HX := Lib.hid hx
  have hn5 : n ≤ 500000 := by omega
  clear h hn hT hz hx
  go_enter Try.func20, Try.ntmps20
  go_wp2_with (go_at_call 37; (with_reducible refine HCL.out.mono ?_); rintro e w3 ⟨a3, c3, P0, rfl, h3⟩; have H3 := Lib.hid h3; clear h3)
  clear HCL
  go_loopw [9] (PsRel w T a3 n c3) (fun i _ => n - (intOf i).toNat)
  case atStart => exact ⟨0, P0, rfl, Nat.zero_le _, H3.out⟩
  case round =>
    obtain ⟨k, P, rfl, hk, hC⟩ := hrel
    have HC := Lib.hid hC
    clear hC
    by_cases hlt : k < n
    · obtain ⟨t, ht⟩ : ∃ t, T[k]? = some t := ⟨_, List.getElem?_eq_getElem (by rw [← HN.out]; exact hlt)⟩
      have htk : ((T.take k).map escX ++ T.drop k)[k]? = some t := by
        have hl : ((T.take k).map escX).length = k := by rw [List.length_map, List.length_take, ← HN.out]; omega
        rw [List.getElem?_append_right (by omega), hl, Nat.sub_self, drop_at ht]
        rfl
      obtain ⟨sv, hp⟩ : ∃ sv, P[k]? = some (t, sv) := by
        have h := htk
        rw [← HC.out.map, List.getElem?_map, Option.map_eq_some_iff] at h
        obtain ⟨p, hp, rfl⟩ := h
        exact ⟨p.2, hp⟩
      obtain ⟨sa, sn, sc, hv, -⟩ := (HC.out.sits _ (List.mem_of_getElem? hp)).form
      simp only at hv
      subst hv
      obtain ⟨a4, c4, hv4, hc1, hc2, hcell⟩ := row_form HC.out.up.1
      simp only [Value.slice.injEq, true_and] at hv4
      obtain ⟨rfl, rfl⟩ := hv4
      have hg := fun j (hj : j < 8) => flat_get (f := xcell) (n := 8) (fun _ => rfl) P k _ hp j hj
      obtain ⟨rg, rfl, hrg, k0⟩ := hcell (k * 8 + 0) _ ((hg 0 (by omega)).trans rfl)
      have hkc : ∀ j u, j < 8 → (xcell (t, .slice sa sn sc))[j]? = some u → wr.cell? ⟨rg, k * 8 + j, none⟩ = some u := by
        intro j u hj hu
        obtain ⟨g', hg', -, e⟩ := hcell (k * 8 + j) u ((hg j hj).trans hu)
        simp only [Option.some.injEq, Addr.mk.injEq, and_true] at hg'
        rw [hg']
        exact e
      have e0 : wr.cell? ⟨rg, k * 8, none⟩ = some (.int .i64 t.k) := k0
      have e1 : wr.cell? ⟨rg, k * 8 + 1, none⟩ = some (.string t.x) := hkc 1 _ (by omega) rfl
      have e2 : wr.cell? ⟨rg, k * 8 + 2, none⟩ = some (.bool t.sp) := hkc 2 _ (by omega) rfl
      have e3 : wr.cell? ⟨rg, k * 8 + 3, none⟩ = some (.string t.g) := hkc 3 _ (by omega) rfl
      have e4 : wr.cell? ⟨rg, k * 8 + 4, none⟩ = some (.int .i64 t.f) := hkc 4 _ (by omega) rfl
      have e5 : wr.cell? ⟨rg, k * 8 + 5, none⟩ = some (.int .i64 t.t) := hkc 5 _ (by omega) rfl
      have e6 : wr.cell? ⟨rg, k * 8 + 6, none⟩ = some (.bool t.d) := hkc 6 _ (by omega) rfl
      have e7 : wr.cell? ⟨rg, k * 8 + 7, none⟩ = some (.slice sa sn sc) := hkc 7 _ (by omega) rfl
      have HE1 := Lib.hid e1
      have HFZ := Lib.hid (fun (X : World) (hX : Below wr.heap.size wr X) => own_freeX (HC.out.over hX).up.1)
      have hkI : (k : Int) < (n : Int) := by omega
      have hk0 : (0 : Int) ≤ (k : Int) := by omega
      have HP := Lib.hid hp
      have HRG := Lib.hid hrg
      have HES : Hid (∀ X : World, Calls Try.prog 38 #[.string t.x] X (StrNew ⟨(quoL t.x.data.toList).toArray⟩ X)) := Lib.hid (fun X => escaped_any t.x X (HX.out t (List.mem_of_getElem? ht)))
      have HNX : Hid (∀ X : World, Below wr.heap.size wr X → (t.k = 4 ∨ t.k = 3) → ClT w ((T.take (k + 1)).map escX ++ T.drop (k + 1)) (some ⟨rg, 0, none⟩) n c3 (P.set k ({ t with x := ⟨(quoL t.x.data.toList).toArray⟩ }, .slice sa sn sc)) (X.setCell ⟨rg, k * 8 + 1, none⟩ (.string ⟨(quoL t.x.data.toList).toArray⟩))) := Lib.hid (fun X hX he => by
        have h := (HC.out.over hX).putx hp ⟨(quoL t.x.data.toList).toArray⟩
        have e : ({ t with x := ⟨(quoL t.x.data.toList).toArray⟩ } : Xt) = escX t := by unfold escX; rw [if_pos he]
        rw [e, esc_next ht] at h
        rw [e]
        exact h)
      have HSM : Hid (¬ (t.k = 4 ∨ t.k = 3) → (T.take k).map escX ++ T.drop k = (T.take (k + 1)).map escX ++ T.drop (k + 1)) := Lib.hid (esc_same ht)
      unfold maxLen at hc2
      clear hcell hg k0 hkc hp hrg htk ht
      have HWY : Hid ((((t.k) == 4) = true ∧ t.k = 4) ∨ (((t.k) == 4) = false ∧ ((t.k) == 3) = true ∧ t.k = 3) ∨ (((t.k) == 4) = false ∧ ((t.k) == 3) = false ∧ ¬ (t.k = 4 ∨ t.k = 3))) := Lib.hid (by
        by_cases h4 : t.k = 4
        · exact .inl ⟨by simp [h4], h4⟩
        · by_cases h3 : t.k = 3
          · exact .inr (.inl ⟨by simp [h4], by simp [h3], h3⟩)
          · exact .inr (.inr ⟨by simp [h4], by simp [h3], by intro h; rcases h with h | h <;> contradiction⟩))
      rcases HWY.out with ⟨b4, hk4⟩ | ⟨b4, b3, hk3⟩ | ⟨b4, b3, hkn⟩
      · have HKK : Hid (t.k = 4 ∨ t.k = 3) := Lib.hid (.inl hk4)
        clear hk4 HWY
        go_wp2_with (go_at_call 38; (with_reducible refine (HES.out _).mono ?_); rintro e w4 ⟨rfl, hb4⟩; have HB4 : Hid (Below wr.heap.size wr w4) := Lib.hid (below_up ((Below.refl _ _).alloc (Nat.le_refl _) _) hb4); have q1 := bcell HB4.out HE1.out HRG.out; have q2 := HFZ.out _ HB4.out (k * 8 + 1); clear hb4 e0 e1 e2 e3 e4 e5 e6 e7)
        go_roundw
        case rel => exact ⟨k + 1, _, by go_num, hlt, HNX.out _ HB4.out HKK.out⟩
        case measure => simp [intOf]; omega
      · have HKK : Hid (t.k = 4 ∨ t.k = 3) := Lib.hid (.inr hk3)
        clear hk3 HWY
        go_wp2_with (go_at_call 38; (with_reducible refine (HES.out _).mono ?_); rintro e w4 ⟨rfl, hb4⟩; have HB4 : Hid (Below wr.heap.size wr w4) := Lib.hid (below_up ((Below.refl _ _).alloc (Nat.le_refl _) _) hb4); have q1 := bcell HB4.out HE1.out HRG.out; have q2 := HFZ.out _ HB4.out (k * 8 + 1); clear hb4 e0 e1 e2 e3 e4 e5 e6 e7)
        go_roundw
        case rel => exact ⟨k + 1, _, by go_num, hlt, HNX.out _ HB4.out HKK.out⟩
        case measure => simp [intOf]; omega
      · have HEQ := Lib.hid (HSM.out hkn)
        clear hkn HWY
        go_wp2
        go_roundw
        case rel => exact ⟨k + 1, P, by go_num, hlt, by rw [← HEQ.out]; exact HC.out.over ((Below.refl _ _).alloc (Nat.le_refl _) _)⟩
        case measure => simp [intOf]; omega
    · have hkI : ¬ (k : Int) < (n : Int) := by omega
      have HCE : Hid (ClT w (T.map escX) a3 n c3 P wr) := Lib.hid (by
        have h := HC.out
        rw [List.take_of_length_le (by have := HN.out; omega), List.drop_of_length_le (by have := HN.out; omega), List.append_nil] at h
        exact h)
      obtain ⟨X, hX⟩ : ∃ X : ByteArray, (⟨(textT (T.map escX)).toArray⟩ : ByteArray) = X := ⟨_, rfl⟩
      have HTX : Hid (Calls Try.prog 39 #[.slice a3 n c3] wr (StrNew X wr)) := Lib.hid (hX ▸ ltext_any HCE.out.toks HZ.out)
      have hxs : X.size ≤ 2000000 := by
        rw [← hX]
        show (textT (T.map escX)).toArray.size ≤ _
        rw [List.size_toArray]
        have := HZ.out
        omega
      have HST : Hid ((⟨#[34]⟩ ++ X ++ ⟨#[34]⟩ : ByteArray) = ⟨(stringL T).toArray⟩) := Lib.hid (str_of hX.symm)
      have q1 := str_fit1 X hxs
      have q2 := str_fit2 X hxs
      clear hX hxs
      go_wp2_with (go_at_call 39; (with_reducible refine HTX.out.mono ?_); rintro e w5 ⟨rfl, b5⟩; have HB5 := Lib.hid b5; clear b5)
      go_ret
      exact ⟨by rw [HST.out]; rfl, below_up HCE.out.up.2 HB5.out⟩

end Go.Proofs.Ytipipookgcdfbaa

/-
  Tokens as a string: the document's Stringize, walked.
-/
namespace Go.Proofs.Ytipipookgcdfbaa
open Go.RowKit

def RsRel (w : World) (U : List Xt) (n : Nat) (t3 t4 : Value) (wr : World) : Prop :=
  ∃ (k : Nat) (z : ByteArray), t3 = .string z ∧ t4 = .int .i64 (k : Int) ∧ k ≤ n ∧ z = ⟨(textT (U.take k)).toArray⟩ ∧ Below w.heap.size w wr
theorem quo_mid (x : ByteArray) : (⟨(quotedL x.data.toList).toArray⟩ : ByteArray).extract 1 ((⟨(quotedL x.data.toList).toArray⟩ : ByteArray).size - 1) = ⟨(quoL x.data.toList).toArray⟩ := by
  apply ByteArray.ext
  rw [ByteArray.data_extract]
  show (quotedL x.data.toList).toArray.extract 1 ((quotedL x.data.toList).toArray.size - 1) = _
  apply Array.toList_inj.1
  rw [Array.toList_extract, List.extract_eq_take_drop, List.size_toArray]
  show ((34 :: (quoL x.data.toList ++ [34])).drop 1).take ((34 :: (quoL x.data.toList ++ [34])).length - 1 - 1) = quoL x.data.toList
  simp

set_option maxRecDepth 100000 in
set_option maxHeartbeats 6400000 in
theorem rstr_any {T : List Xt} {v : Value} {w : World} (h : ToksX T v w) (hz : (textT (T.map escX)).length ≤ 1000000) (hx : ∀ t ∈ T, t.x.size ≤ 300000) : Calls Try.prog 21 #[v] w (StrNew ⟨(stringL T).toArray⟩ w) := by
  obtain ⟨a, n, cap, rfl⟩ := h.form
  obtain ⟨hn, hc1, hc2⟩ := h.len
  unfold maxLen at hc2
  have HN := Lib.hid hn
  have HX := Lib.hid h
  have HZ := Lib.hid hz
  have HXS := Lib.hid hx
  clear h hn hz hx
  go_enter Try.func21, Try.ntmps21
  go_wp2
  go_loopw [3, 4] (RsRel w (T.map escX) n) (fun _ i _ => n - (intOf i).toNat)
  case atStart => exact ⟨0, _, rfl, rfl, Nat.zero_le _, rfl, Below.refl _ _⟩
  case round =>
    obtain ⟨k, z, rfl, rfl, hk, hzz, hW⟩ := hrel
    have HW := Lib.hid hW
    have HZZ := Lib.hid hzz
    have hzs : z.size ≤ 1000000 := by
      rw [hzz]
      exact Nat.le_trans (by show (textT ((T.map escX).take k)).toArray.size ≤ _; simpa using textT_le (T.map escX) k) HZ.out
    clear hzz hW
    by_cases hlt : k < n
    · obtain ⟨t, ht⟩ : ∃ t, T[k]? = some t := ⟨_, List.getElem?_eq_getElem (by rw [← HN.out]; exact hlt)⟩
      obtain ⟨g, o, sa, sn, sc, rfl, hg, -, hxt, -⟩ := HX.out.get ht
      have HTK := Lib.hid (And.intro hxt hg)
      obtain ⟨y0, y1, y2, y3, y4, y5, y6, y7⟩ := hxt.next HW.out hg
      have hut : (T.map escX)[k]? = some (escX t) := by rw [List.getElem?_map, ht]; rfl
      have HTX := Lib.hid (text_next hut)
      have hxs := HXS.out t (List.mem_of_getElem? ht)
      have hes : (escX t).x.size ≤ 1000000 := text_fit hut HZ.out
      have hkI : (k : Int) < (n : Int) := by omega
      have hk0 : (0 : Int) ≤ (k : Int) := by omega
      -- the blank
      obtain ⟨bl, hbl⟩ : ∃ b, (decide (0 < k) && (escX t).sp) = b := ⟨_, rfl⟩
      rw [hbl] at HTX
      have HBL : Hid ((bl = true ∧ (0 : Int) < (k : Int) ∧ t.sp = true) ∨ (bl = false ∧ (0 : Int) < (k : Int) ∧ t.sp = false) ∨ (bl = false ∧ ¬ (0 : Int) < (k : Int))) := Lib.hid (by
        rw [esc_sp] at hbl
        by_cases h0 : 0 < k
        · rw [decide_eq_true h0, Bool.true_and] at hbl
          cases hs : t.sp with
          | true => exact .inl ⟨by rw [← hbl, hs], by omega, rfl⟩
          | false => exact .inr (.inl ⟨by rw [← hbl, hs], by omega, rfl⟩)
        · rw [decide_eq_false h0, Bool.false_and] at hbl
          exact .inr (.inr ⟨hbl.symm, by omega⟩))
      -- the kind
      by_cases hek : t.k = 4 ∨ t.k = 3
      · obtain ⟨Q, hQ⟩ : ∃ Q : ByteArray, (⟨(quotedL t.x.data.toList).toArray⟩ : ByteArray) = Q := ⟨_, rfl⟩
        have HQ : Hid (∀ X : World, Calls Try.prog 23 #[.string t.x] X (StrNew Q X)) := Lib.hid (fun X => hQ ▸ rquo_any t.x X hxs)
        obtain ⟨x, hxx⟩ : ∃ x : ByteArray, (escX t).x = x := ⟨_, rfl⟩
        have hqx : Q.extract 1 (Q.size - 1) = x := by
          rw [← hQ, quo_mid, ← hxx]
          unfold escX
          rw [if_pos hek]
        have hqs : 2 ≤ Q.size := by
          rw [← hQ]
          show 2 ≤ (quotedL t.x.data.toList).toArray.size
          rw [List.size_toArray]
          simp [quotedL]
        have hqm : Q.size ≤ 1000000 := by
          rw [← hQ]
          show (quotedL t.x.data.toList).toArray.size ≤ _
          have := quoL_le t.x.data.toList
          rw [bytes_len] at this
          rw [List.size_toArray]
          simp only [quotedL, List.length_cons, List.length_append, List.length_nil]
          omega
        have hrun := fun W => slice_lh Q 1 (Q.size - 1) (by omega) (by omega) W
        have hc2' : (((Q.size - 1 : Nat) : Int)) = (Q.size : Int) - 1 := by omega
        rw [hqx, hc2', show (((1 : Nat) : Int)) = 1 from rfl] at hrun
        rw [hxx] at HTX hes
        have q1 : (z.size + 1 > 9223372036854775807) = False := by simp; omega
        have q2 : (z.size + 1 + x.size > 9223372036854775807) = False := by simp; omega
        have q3 : (z.size + x.size > 9223372036854775807) = False := by simp; omega
        have HKW : Hid (((t.k == 4) = true) ∨ ((t.k == 4) = false ∧ (t.k == 3) = true)) := Lib.hid (by
          by_cases h4 : t.k = 4
          · exact .inl (by simp [h4])
          · exact .inr ⟨by simp [h4], by simp [hek.resolve_left h4]⟩)
        clear hek hxt ht hut hQ hxx hqx hc2' hbl
        rcases HBL.out with ⟨rfl, hb0, hsp⟩ | ⟨rfl, hb0, hsp⟩ | ⟨rfl, hb0⟩
        · rw [hsp] at y2
          clear hsp HBL
          rcases HKW.out with b4 | ⟨b4, b3⟩
          all_goals (
            clear HKW
            go_wp2_with (go_at_call 23; (with_reducible refine (HQ.out _).mono ?_); rintro e w4 ⟨rfl, hb4⟩; have HB4 := Lib.hid hb4; clear hb4)
            go_roundw
            case rel => exact ⟨k + 1, _, rfl, by go_num, hlt, by rw [HTX.out]; exact bs_more32 HZZ.out, below_up HW.out HB4.out⟩
            case measure => simp [intOf]; omega)
        · rw [hsp] at y2
          clear hsp HBL
          rcases HKW.out with b4 | ⟨b4, b3⟩
          all_goals (
            clear HKW
            go_wp2_with (go_at_call 23; (with_reducible refine (HQ.out _).mono ?_); rintro e w4 ⟨rfl, hb4⟩; have HB4 := Lib.hid hb4; clear hb4)
            go_roundw
            case rel => exact ⟨k + 1, _, rfl, by go_num, hlt, by rw [HTX.out]; exact bs_more HZZ.out, below_up HW.out HB4.out⟩
            case measure => simp [intOf]; omega)
        · clear HBL
          rcases HKW.out with b4 | ⟨b4, b3⟩
          all_goals (
            clear HKW
            go_wp2_with (go_at_call 23; (with_reducible refine (HQ.out _).mono ?_); rintro e w4 ⟨rfl, hb4⟩; have HB4 := Lib.hid hb4; clear hb4)
            go_roundw
            case rel => exact ⟨k + 1, _, rfl, by go_num, hlt, by rw [HTX.out]; exact bs_more HZZ.out, below_up HW.out HB4.out⟩
            case measure => simp [intOf]; omega)
      · have hxe : (escX t).x = t.x := by unfold escX; rw [if_neg hek]
        have b4 : (t.k == 4) = false := by simp; exact fun e => hek (.inl e)
        have b3 : (t.k == 3) = false := by simp; exact fun e => hek (.inr e)
        rw [hxe] at HTX hes
        obtain ⟨x, hxx⟩ : ∃ x : ByteArray, t.x = x := ⟨_, rfl⟩
        rw [hxx] at HTX hes y1
        have q1 : (z.size + 1 > 9223372036854775807) = False := by simp; omega
        have q2 : (z.size + 1 + x.size > 9223372036854775807) = False := by simp; omega
        have q3 : (z.size + x.size > 9223372036854775807) = False := by simp; omega
        clear hek hxt ht hut hxx hxe hbl hxs
        rcases HBL.out with ⟨rfl, hb0, hsp⟩ | ⟨rfl, hb0, hsp⟩ | ⟨rfl, hb0⟩
        · rw [hsp] at y2
          clear hsp HBL
          go_wp2
          go_roundw
          case rel => exact ⟨k + 1, _, rfl, by go_num, hlt, by rw [HTX.out]; exact bs_more32 HZZ.out, HW.out⟩
          case measure => simp [intOf]; omega
        · rw [hsp] at y2
          clear hsp HBL
          go_wp2
          go_roundw
          case rel => exact ⟨k + 1, _, rfl, by go_num, hlt, by rw [HTX.out]; exact bs_more HZZ.out, HW.out⟩
          case measure => simp [intOf]; omega
        · clear HBL
          go_wp2
          go_roundw
          case rel => exact ⟨k + 1, _, rfl, by go_num, hlt, by rw [HTX.out]; exact bs_more HZZ.out, HW.out⟩
          case measure => simp [intOf]; omega
    · have hkI : ¬ (k : Int) < (n : Int) := by omega
      have HST : Hid ((⟨#[34]⟩ ++ z ++ ⟨#[34]⟩ : ByteArray) = ⟨(stringL T).toArray⟩) := Lib.hid (str_of (by rw [HZZ.out, List.take_of_length_le (by rw [List.length_map]; have := HN.out; omega)]))
      have q1 := str_fit1 z (by omega)
      have q2 := str_fit2 z (by omega)
      go_wp2
      go_ret
      exact ⟨by rw [HST.out]; rfl, HW.out⟩

end Go.Proofs.Ytipipookgcdfbaa
