/-
  Texts of the proof, put together: AgPln, AgAh.
-/
import Derived.Test.YtipipookgcdfbaaG29
import Derived.Test.YtipipookgcdfbaaG31

/-
  A string read as a text: the project's plain and Unquote, walked.
-/
namespace Go.Proofs.Ytipipookgcdfbaa
open Go.RowKit

theorem drop_byte {s : ByteArray} {k : Nat} {c : UInt8} (h : k < s.size) (hc : s[k] = c) : s.data.toList.drop k = c :: s.data.toList.drop (k + 1) := by
  rw [List.drop_eq_getElem_cons (by rw [bytes_len]; exact h)]
  have := bytes_at h
  rw [List.getElem?_eq_getElem (by rw [bytes_len]; exact h), hc] at this
  rw [Option.some.inj this]

def PnRel (w : World) (s : ByteArray) (t4 : Value) (wr : World) : Prop :=
  ∃ (k : Nat) (l : List UInt8), t4 = .int .i64 (k : Int) ∧ k ≤ s.size ∧ l.length ≤ k ∧ plnL s.data.toList = l ++ plnL (s.data.toList.drop k) ∧ Bld w.heap.size l wr ∧ Below w.heap.size w wr

set_option maxRecDepth 100000 in
set_option maxHeartbeats 3200000 in
theorem plain_any (s : ByteArray) (w : World) (hs : s.size ≤ 1000000) : Calls Try.prog 35 #[.string s] w (StrNew ⟨(plnL s.data.toList).toArray⟩ w) := by
  go_enter Try.func35, Try.ntmps35
  go_wp2
  go_loopw [4] (PnRel w s) (fun i _ => s.size - (intOf i).toNat)
  case atStart => exact ⟨0, [], rfl, Nat.zero_le _, Nat.le_refl _, rfl, bld_new w, (Below.refl _ _).alloc (Nat.le_refl _) _⟩
  case round =>
    obtain ⟨k, l, rfl, hk, hl, hE, hB, hW⟩ := hrel
    have HB := Lib.hid hB
    have HW := Lib.hid hW
    have HE := Lib.hid hE
    clear hB hW hE
    by_cases hlt : k < s.size
    · obtain ⟨c, hc⟩ : ∃ c, s[k] = c := ⟨_, rfl⟩
      have HDK := Lib.hid (drop_byte hlt hc)
      have hci : ((s[k]'hlt).toNat : Int) = (c.toNat : Int) := by rw [hc]
      have hkI : (k : Int) < (s.size : Int) := by omega
      have hk0 : (0 : Int) ≤ (k : Int) := by omega
      have hks : (k : Int) ≤ 1000000 := by omega
      clear hc
      have h2 := byte_isB c 92 (by decide)
      by_cases h92 : c = 92 ∧ k + 1 < s.size
      · obtain ⟨rfl, hlt2⟩ := h92
        obtain ⟨d, hd⟩ : ∃ d, s[k + 1] = d := ⟨_, rfl⟩
        have HDK2 := Lib.hid (drop_byte hlt2 hd)
        have hdi : ((s[k + 1]'hlt2).toNat : Int) = (d.toNat : Int) := by rw [hd]
        have HSP : Hid (∀ X : World, Calls Try.prog 51 #[.int .u8 (d.toNat : Int)] X (BoolPost (specB d) X)) := Lib.hid (fun X => special_any d X)
        have hk2 : (k : Int) + 1 < (s.size : Int) := by omega
        have hc92 : (((92 : UInt8).toNat : Int) == 92) = true := by decide
        clear hd h2
        cases hb : specB d with
        | true =>
          rw [hb] at HSP
          have HNX := Lib.hid (pln_yes hb (s.data.toList.drop (k + 1 + 1)))
          clear hb
          go_wp2_with (first
            | (go_at_call 51; (with_reducible refine (HSP.out _).mono ?_); rintro e w' ⟨rfl, rfl⟩)
            | (go_at_call 52; ((with_reducible refine (bld_byte HB.out d rfl (by omega) HW.out.size).mono ?_); rintro e w3 ⟨rfl, h3, b3⟩; have HB3 := Lib.hid h3; have HW3 := Lib.hid (HW.out.trans b3); clear h3 b3)))
          go_roundw
          case rel => exact ⟨k + 1 + 1, l ++ [d], by go_num, by omega, by rw [List.length_append]; simp; omega, by rw [HE.out, HDK.out, HDK2.out, HNX.out, List.append_assoc]; rfl, HB3.out, HW3.out⟩
          case measure => simp [intOf]; omega
        | false =>
          rw [hb] at HSP
          have HNX := Lib.hid (pln_no hb (s.data.toList.drop (k + 1 + 1)))
          clear hb
          go_wp2_with (first
            | (go_at_call 51; (with_reducible refine (HSP.out _).mono ?_); rintro e w' ⟨rfl, rfl⟩)
            | (go_at_call 52; ((with_reducible refine (bld_byte (n := 92) HB.out 92 (by decide) (by omega) HW.out.size).mono ?_); rintro e w3 ⟨rfl, h3, b3⟩; have HB3 := Lib.hid h3; have HW3 := Lib.hid (HW.out.trans b3); clear h3 b3)))
          go_roundw
          case rel => exact ⟨k + 1, l ++ [92], by go_num, by omega, by rw [List.length_append]; simp; omega, by rw [HE.out, HDK.out, HDK2.out, HNX.out, List.append_assoc]; rfl, HB3.out, HW3.out⟩
          case measure => simp [intOf]; omega
      · have HNX : Hid (plnL (c :: s.data.toList.drop (k + 1)) = c :: plnL (s.data.toList.drop (k + 1))) := Lib.hid (by
          by_cases hc : c = 92
          · have : s.data.toList.drop (k + 1) = [] := List.drop_of_length_le (by rw [bytes_len]; have : ¬ k + 1 < s.size := fun h => h92 ⟨hc, h⟩; omega)
            rw [this]; rfl
          · exact pln_one hc _)
        have HWY : Hid ((((c.toNat : Int) == 92) = false) ∨ ((((c.toNat : Int) == 92) = true) ∧ ¬ (k : Int) + 1 < (s.size : Int))) := Lib.hid (by
          by_cases hc : c = 92
          · subst hc
            exact .inr ⟨by decide, fun h => h92 ⟨rfl, by omega⟩⟩
          · exact .inl (by have e : (((c.toNat : Nat) : Int) == ((92 : Nat) : Int)) = decide (c = UInt8.ofNat 92) := h2; rw [show decide (c = UInt8.ofNat 92) = false from decide_eq_false hc] at e; exact e))
        clear h92 h2
        rcases HWY.out with hcf | ⟨hcf, hnl⟩
        all_goals (
          go_wp2_with (go_at_call 52; ((with_reducible refine (bld_byte HB.out c rfl (by omega) HW.out.size).mono ?_); rintro e w3 ⟨rfl, h3, b3⟩; have HB3 := Lib.hid h3; have HW3 := Lib.hid (HW.out.trans b3); clear h3 b3))
          go_roundw
          case rel => exact ⟨k + 1, l ++ [c], by go_num, by omega, by rw [List.length_append]; simp; omega, by rw [HE.out, HDK.out, HNX.out, List.append_assoc]; rfl, HB3.out, HW3.out⟩
          case measure => simp [intOf]; omega)
    · have hkI : ¬ (k : Int) < (s.size : Int) := by omega
      have HEE : Hid (l = plnL s.data.toList) := Lib.hid (by rw [HE.out, List.drop_of_length_le (by rw [bytes_len]; omega)]; simp [plnL])
      go_wp2_with (go_at_call 53; (with_reducible refine (bld_str HB.out HW.out.size).mono ?_); rintro e w4 ⟨rfl, b4⟩; have HW4 := Lib.hid (HW.out.trans b4); clear b4)
      go_ret
      rw [HEE.out]
      exact ⟨rfl, HW4.out⟩

/-- What an Unquote answers. -/
def UnqPost (W : World) (R : Option (List UInt8)) (e : Ending) (w' : World) : Prop :=
  (match R with
    | none => e = .returned (.tuple #[.string ⟨#[]⟩, .bool false])
    | some l => e = .returned (.tuple #[.string ⟨l.toArray⟩, .bool true])) ∧ Below W.heap.size W w'
theorem unq_none {W : World} {R : Option (List UInt8)} {w' : World} (h : R = none) (hb : Below W.heap.size W w') : UnqPost W R (.returned (.tuple #[.string ⟨#[]⟩, .bool false])) w' := by
  subst h
  exact ⟨rfl, hb⟩
theorem unq_mk {W : World} {R : Option (List UInt8)} {l : List UInt8} {w' : World} (h : R = some l) (hb : Below W.heap.size W w') : UnqPost W R (.returned (.tuple #[.string ⟨l.toArray⟩, .bool true])) w' := by
  subst h
  exact ⟨rfl, hb⟩

set_option maxRecDepth 100000 in
set_option maxHeartbeats 3200000 in
theorem punq_any (s : ByteArray) (w : World) (hs : s.size ≤ 100000) : Calls Try.prog 18 #[.string s] w (UnqPost w (dquL s.data.toList)) := by
  have HONE := Lib.hid (one_any s w hs)
  rcases one_dqu s.data.toList with ⟨h4, p, i, hp, hl, hd, -⟩ | ⟨h4, hd⟩
  · unfold onePost at HONE
    rw [h4] at HONE
    unfold oneV at HONE
    have hidx : Lib.indexByte s.data.toList 34 = (p.length : Int) := by rw [hl]; exact index_con hp i
    have HIX : Hid (∀ X : World, Calls Try.prog 34 #[.string s, .int .u8 34] X fun e w' => e = .returned (.int .i64 (p.length : Int)) ∧ X = w') := Lib.hid (fun X => (Try.strings_IndexByte s 34 X).mono fun e w' ⟨he, hw⟩ => ⟨by rw [he, ← hidx]; rfl, hw.symm⟩)
    have hlen : s.size = p.length + i.length + 2 := by rw [← bytes_len, hl, con_len]
    have HPL : Hid (∀ X : World, Calls Try.prog 35 #[.string (s.extract (p.length + 1) (s.size - 1))] X (StrNew ⟨(plnL i).toArray⟩ X)) := Lib.hid (fun X => by
      have he : (s.extract (p.length + 1) (s.size - 1)).data.toList = i := by
        have h1 : (s.extract (p.length + 1) (s.size - 1)).data.toList = (s.data.toList.drop (p.length + 1)).take (s.size - 1 - (p.length + 1)) := by
          simp only [ByteArray.data_extract, Array.toList_extract, List.extract_eq_take_drop]
        rw [h1, hl, show s.size - 1 - (p.length + 1) = (conS 34 p i).length - 1 - (p.length + 1) from by rw [con_len]; omega]
        exact con_mid 34 p i
      have h := plain_any (s.extract (p.length + 1) (s.size - 1)) X (by rw [ByteArray.size_extract]; omega)
      rw [he] at h
      exact h)
    have HD := Lib.hid hd
    obtain ⟨P, hP⟩ : ∃ P, p.length = P := ⟨_, rfl⟩
    rw [hP] at HIX HPL hlen
    have hP2 : P + 2 ≤ s.size := by omega
    have hrun := fun W => slice_lh s (P + 1) (s.size - 1) (by omega) (by omega) W
    have hc1 : (((P + 1 : Nat) : Int)) = (P : Int) + 1 := by omega
    have hc2 : (((s.size - 1 : Nat) : Int)) = (s.size : Int) - 1 := by omega
    rw [hc1, hc2] at hrun
    clear h4 hp hl hd hidx hlen hP hc1 hc2
    go_enter Try.func18, Try.ntmps18
    go_wp2_with (first
      | (go_at_call 33; (with_reducible refine HONE.out.mono ?_); rintro e w1 ⟨rfl, b1⟩; have HB1 := Lib.hid b1; clear b1)
      | (go_at_call 34; (with_reducible refine (HIX.out _).mono ?_); rintro e w2 ⟨rfl, rfl⟩)
      | (go_at_call 35; (with_reducible refine (HPL.out _).mono ?_); rintro e w3 ⟨rfl, b3⟩; have HB3 := Lib.hid b3; clear b3))
    go_ret2
    exact unq_mk HD.out (below_up HB1.out (below_up ((Below.refl _ _).alloc (Nat.le_refl _) _) HB3.out))
  · unfold onePost at HONE
    have HD := Lib.hid hd
    cases ho : oneL s.data.toList with
    | none =>
      rw [ho] at HONE
      unfold oneV at HONE
      clear h4 hd ho
      go_enter Try.func18, Try.ntmps18
      go_wp2_with (go_at_call 33; (with_reducible refine HONE.out.mono ?_); rintro e w1 ⟨rfl, b1⟩; have HB1 := Lib.hid b1; clear b1)
      go_ret2
      exact unq_none HD.out (below_up HB1.out ((Below.refl _ _).alloc (Nat.le_refl _) _))
    | some k =>
      rw [ho] at HONE
      unfold oneV at HONE
      have hk : ((k : Int) != 4) = true := by
        have : k ≠ 4 := fun e => h4 (by rw [ho, e])
        simp
        omega
      clear h4 hd ho
      go_enter Try.func18, Try.ntmps18
      go_wp2_with (go_at_call 33; (with_reducible refine HONE.out.mono ?_); rintro e w1 ⟨rfl, b1⟩; have HB1 := Lib.hid b1; clear b1)
      go_ret2
      exact unq_none HD.out (below_up HB1.out ((Below.refl _ _).alloc (Nat.le_refl _) _))

end Go.Proofs.Ytipipookgcdfbaa

/-
  The document's ahead, walked: a constant's letters.
-/
namespace Go.Proofs.Ytipipookgcdfbaa
open Go.RowKit

def preK : Nat → ByteArray
  | 0 => ⟨#[]⟩
  | 1 => ⟨#[76]⟩
  | 2 => ⟨#[117]⟩
  | 3 => ⟨#[85]⟩
  | _ => ⟨#[117, 56]⟩
/-- It has these letters. -/
def preB (q : UInt8) (l : List UInt8) (k : Nat) : Bool := decide ((preK k).size + 2 ≤ l.length) && decide (l.take (preK k).size = (preK k).data.toList) && decide (l.getD (preK k).size 0 = q) && decide (l.getD (l.length - 1) 0 = q)
theorem preK_le : ∀ k : Nat, (preK k).size ≤ 2
  | 0 => by decide
  | 1 => by decide
  | 2 => by decide
  | 3 => by decide
  | _ + 4 => by show (2 : Nat) ≤ 2; exact Nat.le_refl _
theorem pre_con {q : UInt8} {l : List UInt8} {k : Nat} (h : preB q l k = true) : ∃ p i, isPre p ∧ p.length = (preK k).size ∧ l = conS q p i := by
  unfold preB at h
  simp only [Bool.and_eq_true, decide_eq_true_eq] at h
  obtain ⟨⟨⟨h1, h2⟩, h3⟩, h4⟩ := h
  obtain ⟨n, hn⟩ : ∃ n, (preK k).size = n := ⟨_, rfl⟩
  rw [hn] at h1 h2 h3
  have hd : l.drop n = q :: l.drop (n + 1) := by
    rw [List.drop_eq_getElem_cons (by omega)]
    have : l.getD n 0 = l[n]'(by omega) := by simp [List.getD, List.getElem?_eq_getElem (show n < l.length by omega)]
    rw [← this, h3]
  obtain ⟨i, hi⟩ := last_q (r := l.drop (n + 1)) (q := q) (by rw [List.length_drop]; omega) (by
    rw [getD_drop, List.length_drop, show n + 1 + (l.length - (n + 1) - 1) = l.length - 1 from by omega]
    exact h4)
  refine ⟨(preK k).data.toList, i, ?_, Array.length_toList, ?_⟩
  · match k with
    | 0 => exact .inl rfl
    | 1 => exact .inr (.inl rfl)
    | 2 => exact .inr (.inr (.inl rfl))
    | 3 => exact .inr (.inr (.inr (.inl rfl)))
    | _ + 4 => exact .inr (.inr (.inr (.inr rfl)))
  · unfold conS
    rw [← hi, ← hd, ← h2, List.take_append_drop]
theorem con_pre {q : UInt8} {p i : List UInt8} (hp : isPre p) : ∃ k, k < 5 ∧ preB q (conS q p i) k = true := by
  have hl := con_len q p i
  have hz := con_last q p i
  have mk : ∀ k, k < 5 → (preK k).data.toList = p → ∃ k, k < 5 ∧ preB q (conS q p i) k = true := by
    intro k hk e
    have hs : (preK k).size = p.length := by rw [← e]; exact Array.length_toList.symm
    refine ⟨k, hk, ?_⟩
    unfold preB
    rw [hz, hs, e, hl]
    simp only [Bool.and_eq_true, decide_eq_true_eq]
    refine ⟨⟨⟨by omega, ?_⟩, ?_⟩, trivial⟩
    · unfold conS; rw [List.take_left]
    · unfold conS; simp [List.getD]
  rcases hp with rfl | rfl | rfl | rfl | rfl
  · exact mk 0 (by omega) rfl
  · exact mk 1 (by omega) rfl
  · exact mk 2 (by omega) rfl
  · exact mk 3 (by omega) rfl
  · exact mk 4 (by omega) rfl
theorem ahead_yes {q : UInt8} {l : List UInt8} {k : Nat} (hq : q = 34 ∨ q = 39) (h : preB q l k = true) : aheadQ q l = some (preK k).size := by
  obtain ⟨p, i, hp, hn, rfl⟩ := pre_con h
  rw [ahead_con hp i hq, hn]
theorem ahead_no {q : UInt8} {l : List UInt8} (h : ∀ k, k < 5 → preB q l k = false) : aheadQ q l = none := by
  cases ha : aheadQ q l with
  | none => rfl
  | some n =>
    obtain ⟨p, i, hp, -, rfl⟩ := ahead_some ha
    obtain ⟨k, hk, hb⟩ := con_pre (q := q) (i := i) hp
    rw [h k hk] at hb
    cases hb
def aheadI (q : UInt8) (l : List UInt8) : Int := match aheadQ q l with
  | some n => (n : Int)
  | none => -1

def AhRel (w : World) (q : UInt8) (l : List UInt8) (t6 : Value) (wr : World) : Prop :=
  ∃ k : Nat, t6 = .int .i64 (k : Int) ∧ k ≤ 5 ∧ (∀ j, j < k → preB q l j = false) ∧ Below w.heap.size w wr ∧ wr.heap[w.heap.size]? = some (.cells #[.string (preK 0), .string (preK 1), .string (preK 2), .string (preK 3), .string (preK 4)] 9 (0, 0))
theorem pre_cell {wr : World} {b k : Nat} (h : wr.heap[b]? = some (.cells #[.string (preK 0), .string (preK 1), .string (preK 2), .string (preK 3), .string (preK 4)] 9 (0, 0))) (hk : k < 5) : wr.cell? ⟨b, k, none⟩ = some (.string (preK k)) := by
  rw [Lib.cell_of_heap h]
  match k, hk with
  | 0, _ => rfl
  | 1, _ => rfl
  | 2, _ => rfl
  | 3, _ => rfl
  | 4, _ => rfl

set_option maxRecDepth 100000 in
set_option maxHeartbeats 6400000 in
theorem rahead_any (s : ByteArray) (q : UInt8) (hq : q = 34 ∨ q = 39) {x : Int} (hx : x = (q.toNat : Int)) (w : World) (hs : s.size ≤ 100000) : Calls Try.prog 36 #[.string s, .int .u8 x] w (IntNew (aheadI q s.data.toList) w) := by
  have hx0 : (0 : Int) ≤ x := by omega
  have HYES := Lib.hid (fun k (h : preB q s.data.toList k = true) => (by unfold aheadI; rw [ahead_yes hq h] : aheadI q s.data.toList = ((preK k).size : Int)))
  have HNO := Lib.hid (fun (h : ∀ k, k < 5 → preB q s.data.toList k = false) => (by unfold aheadI; rw [ahead_no h] : aheadI q s.data.toList = -1))
  have HX := Lib.hid hx
  clear hx hq
  go_enter Try.func36, Try.ntmps36
  go_wp2
  go_loopw [6] (AhRel w q s.data.toList) (fun i _ => 5 - (intOf i).toNat)
  case atStart => exact ⟨0, rfl, Nat.zero_le _, fun j hj => absurd hj (Nat.not_lt_zero _), (Below.refl _ _).alloc (Nat.le_refl _) _, heap_alloc_new _ _⟩
  case round =>
    obtain ⟨k, rfl, hk, hno, hb, hcell⟩ := hrel
    have HB := Lib.hid hb
    have HC := Lib.hid hcell
    have HJ := Lib.hid hno
    clear hb hcell hno
    by_cases hlt : k < 5
    · have c0 := pre_cell HC.out hlt
      have hkI : (k : Int) < 5 := by omega
      have hk0 : (0 : Int) ≤ (k : Int) := by omega
      have hP := preK_le k
      have HPB : Hid (preB q s.data.toList k = (decide ((preK k).size + 2 ≤ s.data.toList.length) && decide (s.data.toList.take (preK k).size = (preK k).data.toList) && decide (s.data.toList.getD (preK k).size 0 = q) && decide (s.data.toList.getD (s.data.toList.length - 1) 0 = q))) := Lib.hid rfl
      have HY := Lib.hid (HYES.out k)
      obtain ⟨P, hPP⟩ : ∃ P, preK k = P := ⟨_, rfl⟩
      rw [hPP] at c0 hP HPB HY
      clear hPP
      have HMORE : Hid (preB q s.data.toList k = false → ∀ j, j < k + 1 → preB q s.data.toList j = false) := Lib.hid (fun h j hj => by
        rcases Nat.lt_or_ge j k with h2 | h2
        · exact HJ.out j h2
        · rw [show j = k from by omega]; exact h)
      by_cases hge : P.size + 2 ≤ s.size
      · have hgI : (P.size : Int) + 2 ≤ (s.size : Int) := by omega
        have hPs : (P.size : Int) < (s.size : Int) := by omega
        have hPe : (P.size : Int) ≤ (s.size : Int) := by omega
        have hlast : (s.size : Int) - 1 < (s.size : Int) := by omega
        have hl0 : (0 : Int) ≤ (s.size : Int) - 1 := by omega
        have hl1 : (1 : Int) ≤ (s.size : Int) := by omega
        have hln : ((s.size : Int) - 1).toNat = s.size - 1 := by omega
        have hlw : IntKind.i64.wrap ((s.size : Int) - 1) = (s.size : Int) - 1 := IntWalk.i64_in _ (by omega)
        have hpw : IntKind.i64.wrap ((P.size : Int) + 2) = (P.size : Int) + 2 := IntWalk.i64_in _ (by omega)
        obtain ⟨b2, hb2⟩ : ∃ b, ((s.extract 0 P.size).toList == P.toList) = b := ⟨_, rfl⟩
        obtain ⟨c, hc⟩ : ∃ c, s[P.size]'(by omega) = c := ⟨_, rfl⟩
        obtain ⟨d, hd⟩ : ∃ d, s[s.size - 1]'(by omega) = d := ⟨_, rfl⟩
        have hci : ((s[P.size]'(by omega)).toNat : Int) = (c.toNat : Int) := by rw [hc]
        have hdi : ((s[s.size - 1]'(by omega)).toNat : Int) = (d.toNat : Int) := by rw [hd]
        obtain ⟨b3, hb3⟩ : ∃ b, ((c.toNat : Int) == x) = b := ⟨_, rfl⟩
        obtain ⟨b4, hb4⟩ : ∃ b, ((d.toNat : Int) == x) = b := ⟨_, rfl⟩
        have HV : Hid (preB q s.data.toList k = (b2 && b3 && b4)) := Lib.hid (by
          have t2 : decide (s.data.toList.take P.size = P.data.toList) = b2 := by
            rw [← hb2, Lib.extract_toList, Lib.toList_data, Nat.sub_zero, List.drop_zero, Bool.eq_iff_iff, decide_eq_true_eq, beq_iff_eq]
          have tq : ∀ e : UInt8, decide (e = q) = ((e.toNat : Int) == x) := by
            intro e
            rw [Bool.eq_iff_iff, decide_eq_true_eq, beq_iff_eq, HX.out]
            exact ⟨fun h => by rw [h], fun h => UInt8.toNat_inj.1 (by omega)⟩
          have t3 : s.data.toList.getD P.size 0 = c := by
            have := bytes_at (s := s) (k := P.size) (by omega)
            rw [List.getD, this, hc]; rfl
          have t4 : s.data.toList.getD (s.data.toList.length - 1) 0 = d := by
            have := bytes_at (s := s) (k := s.size - 1) (by omega)
            rw [bytes_len, List.getD, this, hd]; rfl
          rw [HPB.out, t2, t3, t4, tq c, tq d, hb3, hb4, bytes_len, decide_eq_true hge]
          rfl)
        clear hc hd HPB
        have HW : Hid (b2 = false ∨ (b2 = true ∧ b3 = false) ∨ (b2 = true ∧ b3 = true ∧ b4 = false) ∨ (b2 = true ∧ b3 = true ∧ b4 = true)) := Lib.hid (by cases b2 <;> cases b3 <;> cases b4 <;> simp)
        rcases HW.out with rfl | ⟨rfl, rfl⟩ | ⟨rfl, rfl, rfl⟩ | ⟨rfl, rfl, rfl⟩
        · have HF : Hid (preB q s.data.toList k = false) := Lib.hid (by rw [HV.out]; rfl)
          clear HW
          go_wp2_with fail
          go_quiet (fail)
          go_wp2
          go_roundw
          case rel => exact ⟨k + 1, by go_num, hlt, HMORE.out HF.out, below_up HB.out (Below.of_drews _ _), HC.out⟩
          case measure => simp [intOf]; omega
        · have HF : Hid (preB q s.data.toList k = false) := Lib.hid (by rw [HV.out]; rfl)
          clear HW
          go_wp2_with fail
          go_quiet (fail)
          go_wp2
          go_roundw
          case rel => exact ⟨k + 1, by go_num, hlt, HMORE.out HF.out, below_up HB.out (Below.of_drews _ _), HC.out⟩
          case measure => simp [intOf]; omega
        · have HF : Hid (preB q s.data.toList k = false) := Lib.hid (by rw [HV.out]; rfl)
          clear HW
          go_wp2_with fail
          go_quiet (fail)
          go_wp2
          go_roundw
          case rel => exact ⟨k + 1, by go_num, hlt, HMORE.out HF.out, below_up HB.out (Below.of_drews _ _), HC.out⟩
          case measure => simp [intOf]; omega
        · have HF : Hid (preB q s.data.toList k = true) := Lib.hid (by rw [HV.out]; rfl)
          clear HW
          go_wp2_with fail
          go_quiet (fail)
          go_wp2
          go_ret
          exact int_new (HY.out HF.out).symm (below_up HB.out (Below.of_drews _ _))
      · have HF : Hid (preB q s.data.toList k = false) := Lib.hid (by rw [HPB.out, bytes_len, decide_eq_false hge]; rfl)
        have hgI : ¬ (P.size : Int) + 2 ≤ (s.size : Int) := by omega
        have hgB : decide ((P.size : Int) + 2 ≤ (s.size : Int)) = false := decide_eq_false hgI
        have hpw : IntKind.i64.wrap ((P.size : Int) + 2) = (P.size : Int) + 2 := IntWalk.i64_in _ (by omega)
        go_wp2_with fail
        go_quiet (fail)
        go_wp2
        go_roundw
        case rel => exact ⟨k + 1, by go_num, hlt, HMORE.out HF.out, below_up HB.out (Below.of_drews _ _), HC.out⟩
        case measure => simp [intOf]; omega
    · obtain rfl : k = 5 := by omega
      go_wp2
      go_ret
      exact int_new (HNO.out HJ.out).symm HB.out

end Go.Proofs.Ytipipookgcdfbaa
