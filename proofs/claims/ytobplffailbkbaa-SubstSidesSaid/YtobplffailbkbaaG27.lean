/-
  Texts of the proof, put together: AgQuo, AgPln, AgAh.
-/
import Derived.Test.YtobplffailbkbaaG25
import Derived.Test.YtobplffailbkbaaG24
import Derived.Test.YtobplffailbkbaaG26

/-
  A text in quotes: the project's Quoted and plain, and the document's Quoted, walked.
-/
namespace Go.Proofs.Ytobplffailbkbaa
open Go.RowKit

theorem quoted_of {X : ByteArray} {s : ByteArray} (h : X = ⟨(quoL s.data.toList).toArray⟩) : (⟨#[34]⟩ ++ X ++ ⟨#[34]⟩ : ByteArray) = ⟨(quotedL s.data.toList).toArray⟩ := by
  subst h
  apply ByteArray.ext
  simp [quotedL]

theorem brow_push {W w : World} {ty : TypeId} {a : Option Addr} {n c : Nat} {bs : List UInt8} (h : BRow W (.slice a n c) bs w) (hn : n = bs.length) (b : UInt8) {x : Int} (hx : x = (b.toNat : Int)) {sv : Value} (hs : Src w sv 1 1 [.int .u8 x]) (hl : bs.length ≤ 900000) :
    ∃ b' n' cap w', (Builtin.append_ #[35, 35] ty #[.slice a n c, sv]).run Try.prog w = .ok (.slice (some ⟨b', 0, none⟩) n' cap) w' ∧ n' = n + 1 ∧ BRow W (.slice (some ⟨b', 0, none⟩) n' cap) (bs ++ [b]) w' := by
  obtain ⟨i0, hi, hz0, hz1, hz2⟩ := info_parts Try.infoByte
  obtain ⟨v', w', hr, hu⟩ := app_up (ty := ty) Try.underlying35 hi hz0 hz1 hz2 rfl (by decide) (by decide) h hs byte_one (by omega)
  obtain ⟨b', cap, rfl⟩ := append_form hu.1 (by omega)
  rw [← hn] at hr hu
  exact ⟨b', _, cap, w', hr, rfl, BRow.push b (by rw [← hn]; exact hu) hx⟩
theorem brow_one (W : World) (b : UInt8) {x : Int} (hx : x = (b.toNat : Int)) : BRow W (.slice (some ⟨W.heap.size, 0, none⟩) 1 1) [b] (W.alloc (.cells #[.int .u8 x] 5)) := by
  subst hx
  exact ⟨⟨rfl, .inr ⟨W.heap.size, 1, #[.int .u8 (b.toNat : Int)], rfl, Nat.le_refl _, heap_alloc_new _ _, Nat.le_refl _, by unfold maxLen; omega, rfl, rfl⟩⟩, (Below.refl _ _).alloc (Nat.le_refl _) _⟩

def RqRel (w : World) (s : ByteArray) (t3 t4 : Value) (wr : World) : Prop :=
  ∃ (k : Nat) (a : Option Addr) (n c : Nat), t3 = .slice a n c ∧ t4 = .int .i64 (k : Int) ∧ k ≤ s.size ∧ n = (34 :: quoL (s.data.toList.take k)).length ∧ BRow w (.slice a n c) (34 :: quoL (s.data.toList.take k)) wr

set_option maxRecDepth 100000 in
set_option maxHeartbeats 3200000 in
theorem rquo_any (s : ByteArray) (w : World) (hs : s.size ≤ 300000) : Calls Try.prog 35 #[.string s] w (StrNew ⟨(quotedL s.data.toList).toArray⟩ w) := by
  go_enter Try.func35, Try.ntmps35
  go_wp2
  go_loopw [3, 4] (RqRel w s) (fun _ i _ => s.size - (intOf i).toNat)
  case atStart => exact ⟨0, _, 1, 1, rfl, rfl, Nat.zero_le _, rfl, brow_one w 34 (by decide)⟩
  case round =>
    obtain ⟨k, a, n, c, rfl, rfl, hk, hn, hB⟩ := hrel
    have HB := Lib.hid hB
    have HN := Lib.hid hn
    have HLE : Hid ((34 :: quoL (s.data.toList.take k)).length ≤ 600001) := Lib.hid (by
      have := quoL_le (s.data.toList.take k)
      rw [List.length_take] at this
      simp only [List.length_cons]
      omega)
    clear hB hn
    by_cases hlt : k < s.size
    · obtain ⟨d, hd⟩ : ∃ d, s[k] = d := ⟨_, rfl⟩
      have HTK : Hid (s.data.toList.take (k + 1) = s.data.toList.take k ++ [d]) := Lib.hid (by rw [bytes_take hlt, hd])
      have hdi : ((s[k]'hlt).toNat : Int) = (d.toNat : Int) := by rw [hd]
      have hkI : (k : Int) < (s.size : Int) := by omega
      have HQ := Lib.hid (quoL_snoc (s.data.toList.take k) d)
      have h1 := byte_isB d 34 (by decide)
      have h2 := byte_isB d 92 (by decide)
      obtain ⟨b1, e1⟩ : ∃ b, decide (d = 34) = b := ⟨_, rfl⟩
      obtain ⟨b2, e2⟩ : ∃ b, decide (d = 92) = b := ⟨_, rfl⟩
      have h1 : (((d.toNat : Nat) : Int) == 34) = b1 := h1.trans e1
      have h2 : (((d.toNat : Nat) : Int) == 92) = b2 := h2.trans e2
      have HSB : Hid (specB d = (b1 || b2)) := Lib.hid (by unfold specB; rw [e1, e2])
      clear hd e1 e2
      have HW : Hid (b1 = true ∨ (b1 = false ∧ b2 = true) ∨ (b1 = false ∧ b2 = false)) := Lib.hid (by cases b1 <;> cases b2 <;> simp)
      rcases HW.out with rfl | ⟨rfl, rfl⟩ | ⟨rfl, rfl⟩
      · go_wp2_with (at_builtin; first
          | (refine wpList_append_sl rfl (.tmp 22) (.tmp 23) 35 rfl _ (brow_push (HB.out.over ((Below.refl _ _).alloc (Nat.le_refl _) _)) HN.out 92 (x := 92) (by decide) (src_one _ _ _) (by have := HLE.out; omega)) ?_; rintro b8 n8 c8 w8 ⟨hn8, h8⟩; have HN8 := Lib.hid hn8; have HB8 := Lib.hid h8; clear hn8 h8)
          | (refine wpList_append_sl rfl (.tmp 25) (.tmp 29) 35 rfl _ (brow_push (HB8.out.over ((Below.refl _ _).alloc (Nat.le_refl _) _)) (by rw [HN8.out, HN.out]; simp) d (x := (d.toNat : Int)) rfl (src_one _ _ _) (by have := HLE.out; simp only [List.length_append, List.length_cons, List.length_nil] at this ⊢; omega)) ?_; rintro b9 n9 c9 w9 ⟨hn9, h9⟩; have HN9 := Lib.hid hn9; have HB9 := Lib.hid h9; clear hn9 h9))
        go_roundw
        case rel => exact ⟨k + 1, some ⟨b9, 0, none⟩, n9, c9, rfl, by go_num, hlt, by rw [HTK.out, HQ.out, HSB.out, HN9.out, HN8.out, HN.out]; simp, by rw [HTK.out, HQ.out, HSB.out]; have h := HB9.out; simpa using h⟩
        case measure => simp [intOf]; omega
      · go_wp2_with (at_builtin; first
          | (refine wpList_append_sl rfl (.tmp 22) (.tmp 23) 35 rfl _ (brow_push (HB.out.over ((Below.refl _ _).alloc (Nat.le_refl _) _)) HN.out 92 (x := 92) (by decide) (src_one _ _ _) (by have := HLE.out; omega)) ?_; rintro b8 n8 c8 w8 ⟨hn8, h8⟩; have HN8 := Lib.hid hn8; have HB8 := Lib.hid h8; clear hn8 h8)
          | (refine wpList_append_sl rfl (.tmp 25) (.tmp 29) 35 rfl _ (brow_push (HB8.out.over ((Below.refl _ _).alloc (Nat.le_refl _) _)) (by rw [HN8.out, HN.out]; simp) d (x := (d.toNat : Int)) rfl (src_one _ _ _) (by have := HLE.out; simp only [List.length_append, List.length_cons, List.length_nil] at this ⊢; omega)) ?_; rintro b9 n9 c9 w9 ⟨hn9, h9⟩; have HN9 := Lib.hid hn9; have HB9 := Lib.hid h9; clear hn9 h9))
        go_roundw
        case rel => exact ⟨k + 1, some ⟨b9, 0, none⟩, n9, c9, rfl, by go_num, hlt, by rw [HTK.out, HQ.out, HSB.out, HN9.out, HN8.out, HN.out]; simp, by rw [HTK.out, HQ.out, HSB.out]; have h := HB9.out; simpa using h⟩
        case measure => simp [intOf]; omega
      · go_wp2_with (at_builtin; (refine wpList_append_sl rfl (.tmp 25) (.tmp 29) 35 rfl _ (brow_push (HB.out.over ((Below.refl _ _).alloc (Nat.le_refl _) _)) HN.out d (x := (d.toNat : Int)) rfl (src_one _ _ _) (by have := HLE.out; omega)) ?_; rintro b9 n9 c9 w9 ⟨hn9, h9⟩; have HN9 := Lib.hid hn9; have HB9 := Lib.hid h9; clear hn9 h9))
        go_roundw
        case rel => exact ⟨k + 1, some ⟨b9, 0, none⟩, n9, c9, rfl, by go_num, hlt, by rw [HTK.out, HQ.out, HSB.out, HN9.out, HN.out]; simp, by rw [HTK.out, HQ.out, HSB.out]; have h := HB9.out; simpa using h⟩
        case measure => simp [intOf]; omega
    · have hkI : ¬ (k : Int) < (s.size : Int) := by omega
      have HE : Hid (s.data.toList.take k = s.data.toList) := Lib.hid (List.take_of_length_le (by rw [bytes_len]; omega))
      have HCV := Lib.hid (fun (b' n' c' : Nat) (X : World) (h : n' = n + 1 ∧ BRow w (.slice (some ⟨b', 0, none⟩) n' c') ((34 :: quoL (s.data.toList.take k)) ++ [34]) X) => (by
        obtain ⟨h1, h2⟩ := h
        have hq : (34 :: quoL (s.data.toList.take k)) ++ [34] = quotedL s.data.toList := by rw [HE.out]; rfl
        have hl : n' = (quotedL s.data.toList).length := by rw [h1, HN.out, ← hq]; simp
        rw [hq, hl] at h2
        rw [hl]
        exact brow_text h2 : (convert 35 9 (.slice (some ⟨b', 0, none⟩) n' c')).run Try.prog X = .ok (.string ⟨(quotedL s.data.toList).toArray⟩) X))
      go_wp2_with (at_builtin; (refine wpList_append_sl rfl (.tmp 31) (.tmp 32) 35 rfl _ (brow_push (HB.out.over ((Below.refl _ _).alloc (Nat.le_refl _) _)) HN.out 34 (x := 34) (by decide) (src_one _ _ _) (by have := HLE.out; omega)) ?_; intro b9 n9 c9 w9 h9; have hcv := HCV.out _ _ _ _ h9; have HB9 := Lib.hid h9.2; clear h9))
      go_ret
      exact ⟨rfl, HB9.out.2⟩

end Go.Proofs.Ytobplffailbkbaa

/-
  A string read as a text: the project's plain and Unquote, walked.
-/
namespace Go.Proofs.Ytobplffailbkbaa
open Go.RowKit

theorem drop_byte {s : ByteArray} {k : Nat} {c : UInt8} (h : k < s.size) (hc : s[k] = c) : s.data.toList.drop k = c :: s.data.toList.drop (k + 1) := by
  rw [List.drop_eq_getElem_cons (by rw [bytes_len]; exact h)]
  have := bytes_at h
  rw [List.getElem?_eq_getElem (by rw [bytes_len]; exact h), hc] at this
  rw [Option.some.inj this]

def PnRel (w : World) (s : ByteArray) (t4 : Value) (wr : World) : Prop :=
  ∃ (k : Nat) (l : List UInt8), t4 = .int .i64 (k : Int) ∧ k ≤ s.size ∧ l.length ≤ k ∧ plnL s.data.toList = l ++ plnL (s.data.toList.drop k) ∧ Bld w.heap.size l wr ∧ Below w.heap.size w wr

/-- What an Unquote answers. -/
def UnqPost (W : World) (R : Option (List UInt8)) (e : Ending) (w' : World) : Prop :=
  (match R with
    | none => e = .returned (.tuple #[.string ⟨#[]⟩, .bool false])
    | some l => e = .returned (.tuple #[.string ⟨l.toArray⟩, .bool true])) ∧ Below W.heap.size W w'
theorem unq_none {W : World} {R : Option (List UInt8)} {w' : World} (h : R = none) (hb : Below W.heap.size W w') : UnqPost W R (.returned (.tuple #[.string ⟨#[]⟩, .bool false])) w' := by
  subst h
  exact ⟨rfl, hb⟩
theorem unq_mk {W : World} {R : Option (List UInt8)} {l : List UInt8} {w' : World} (h : R = some l) (hb : Below W.heap.size W w') : UnqPost W R (.returned (.tuple #[.string ⟨l.toArray⟩, .bool true])) w' := by
  subst h
  exact ⟨rfl, hb⟩

end Go.Proofs.Ytobplffailbkbaa

/-
  The document's ahead, walked: a constant's letters.
-/
namespace Go.Proofs.Ytobplffailbkbaa
open Go.RowKit

def preK : Nat → ByteArray
  | 0 => ⟨#[]⟩
  | 1 => ⟨#[76]⟩
  | 2 => ⟨#[117]⟩
  | 3 => ⟨#[85]⟩
  | _ => ⟨#[117, 56]⟩
/-- It has these letters. -/
def preB (q : UInt8) (l : List UInt8) (k : Nat) : Bool := decide ((preK k).size + 2 ≤ l.length) && decide (l.take (preK k).size = (preK k).data.toList) && decide (l.getD (preK k).size 0 = q) && decide (l.getD (l.length - 1) 0 = q)
theorem preK_le : ∀ k : Nat, (preK k).size ≤ 2
  | 0 => by decide
  | 1 => by decide
  | 2 => by decide
  | 3 => by decide
  | _ + 4 => by show (2 : Nat) ≤ 2; exact Nat.le_refl _
theorem pre_con {q : UInt8} {l : List UInt8} {k : Nat} (h : preB q l k = true) : ∃ p i, isPre p ∧ p.length = (preK k).size ∧ l = conS q p i := by
  unfold preB at h
  simp only [Bool.and_eq_true, decide_eq_true_eq] at h
  obtain ⟨⟨⟨h1, h2⟩, h3⟩, h4⟩ := h
  obtain ⟨n, hn⟩ : ∃ n, (preK k).size = n := ⟨_, rfl⟩
  rw [hn] at h1 h2 h3
  have hd : l.drop n = q :: l.drop (n + 1) := by
    rw [List.drop_eq_getElem_cons (by omega)]
    have : l.getD n 0 = l[n]'(by omega) := by simp [List.getD, List.getElem?_eq_getElem (show n < l.length by omega)]
    rw [← this, h3]
  obtain ⟨i, hi⟩ := last_q (r := l.drop (n + 1)) (q := q) (by rw [List.length_drop]; omega) (by
    rw [getD_drop, List.length_drop, show n + 1 + (l.length - (n + 1) - 1) = l.length - 1 from by omega]
    exact h4)
  refine ⟨(preK k).data.toList, i, ?_, Array.length_toList, ?_⟩
  · match k with
    | 0 => exact .inl rfl
    | 1 => exact .inr (.inl rfl)
    | 2 => exact .inr (.inr (.inl rfl))
    | 3 => exact .inr (.inr (.inr (.inl rfl)))
    | _ + 4 => exact .inr (.inr (.inr (.inr rfl)))
  · unfold conS
    rw [← hi, ← hd, ← h2, List.take_append_drop]
theorem con_pre {q : UInt8} {p i : List UInt8} (hp : isPre p) : ∃ k, k < 5 ∧ preB q (conS q p i) k = true := by
  have hl := con_len q p i
  have hz := con_last q p i
  have mk : ∀ k, k < 5 → (preK k).data.toList = p → ∃ k, k < 5 ∧ preB q (conS q p i) k = true := by
    intro k hk e
    have hs : (preK k).size = p.length := by rw [← e]; exact Array.length_toList.symm
    refine ⟨k, hk, ?_⟩
    unfold preB
    rw [hz, hs, e, hl]
    simp only [Bool.and_eq_true, decide_eq_true_eq]
    refine ⟨⟨⟨by omega, ?_⟩, ?_⟩, trivial⟩
    · unfold conS; rw [List.take_left]
    · unfold conS; simp [List.getD]
  rcases hp with rfl | rfl | rfl | rfl | rfl
  · exact mk 0 (by omega) rfl
  · exact mk 1 (by omega) rfl
  · exact mk 2 (by omega) rfl
  · exact mk 3 (by omega) rfl
  · exact mk 4 (by omega) rfl
theorem ahead_yes {q : UInt8} {l : List UInt8} {k : Nat} (hq : q = 34 ∨ q = 39) (h : preB q l k = true) : aheadQ q l = some (preK k).size := by
  obtain ⟨p, i, hp, hn, rfl⟩ := pre_con h
  rw [ahead_con hp i hq, hn]
theorem ahead_no {q : UInt8} {l : List UInt8} (h : ∀ k, k < 5 → preB q l k = false) : aheadQ q l = none := by
  cases ha : aheadQ q l with
  | none => rfl
  | some n =>
    obtain ⟨p, i, hp, -, rfl⟩ := ahead_some ha
    obtain ⟨k, hk, hb⟩ := con_pre (q := q) (i := i) hp
    rw [h k hk] at hb
    cases hb
def aheadI (q : UInt8) (l : List UInt8) : Int := match aheadQ q l with
  | some n => (n : Int)
  | none => -1

def AhRel (w : World) (q : UInt8) (l : List UInt8) (t6 : Value) (wr : World) : Prop :=
  ∃ k : Nat, t6 = .int .i64 (k : Int) ∧ k ≤ 5 ∧ (∀ j, j < k → preB q l j = false) ∧ Below w.heap.size w wr ∧ wr.heap[w.heap.size]? = some (.cells #[.string (preK 0), .string (preK 1), .string (preK 2), .string (preK 3), .string (preK 4)] 9 (0, 0))
theorem pre_cell {wr : World} {b k : Nat} (h : wr.heap[b]? = some (.cells #[.string (preK 0), .string (preK 1), .string (preK 2), .string (preK 3), .string (preK 4)] 9 (0, 0))) (hk : k < 5) : wr.cell? ⟨b, k, none⟩ = some (.string (preK k)) := by
  rw [Lib.cell_of_heap h]
  match k, hk with
  | 0, _ => rfl
  | 1, _ => rfl
  | 2, _ => rfl
  | 3, _ => rfl
  | 4, _ => rfl

set_option maxRecDepth 100000 in
set_option maxHeartbeats 6400000 in
theorem rahead_any (s : ByteArray) (q : UInt8) (hq : q = 34 ∨ q = 39) {x : Int} (hx : x = (q.toNat : Int)) (w : World) (hs : s.size ≤ 100000) : Calls Try.prog 34 #[.string s, .int .u8 x] w (IntNew (aheadI q s.data.toList) w) := by
  have hx0 : (0 : Int) ≤ x := by omega
  have HYES := Lib.hid (fun k (h : preB q s.data.toList k = true) => (by unfold aheadI; rw [ahead_yes hq h] : aheadI q s.data.toList = ((preK k).size : Int)))
  have HNO := Lib.hid (fun (h : ∀ k, k < 5 → preB q s.data.toList k = false) => (by unfold aheadI; rw [ahead_no h] : aheadI q s.data.toList = -1))
  have HX := Lib.hid hx
  clear hx hq
  go_enter Try.func34, Try.ntmps34
  go_wp2
  go_loopw [6] (AhRel w q s.data.toList) (fun i _ => 5 - (intOf i).toNat)
  case atStart => exact ⟨0, rfl, Nat.zero_le _, fun j hj => absurd hj (Nat.not_lt_zero _), (Below.refl _ _).alloc (Nat.le_refl _) _, heap_alloc_new _ _⟩
  case round =>
    obtain ⟨k, rfl, hk, hno, hb, hcell⟩ := hrel
    have HB := Lib.hid hb
    have HC := Lib.hid hcell
    have HJ := Lib.hid hno
    clear hb hcell hno
    by_cases hlt : k < 5
    · have c0 := pre_cell HC.out hlt
      have hkI : (k : Int) < 5 := by omega
      have hk0 : (0 : Int) ≤ (k : Int) := by omega
      have hP := preK_le k
      have HPB : Hid (preB q s.data.toList k = (decide ((preK k).size + 2 ≤ s.data.toList.length) && decide (s.data.toList.take (preK k).size = (preK k).data.toList) && decide (s.data.toList.getD (preK k).size 0 = q) && decide (s.data.toList.getD (s.data.toList.length - 1) 0 = q))) := Lib.hid rfl
      have HY := Lib.hid (HYES.out k)
      obtain ⟨P, hPP⟩ : ∃ P, preK k = P := ⟨_, rfl⟩
      rw [hPP] at c0 hP HPB HY
      clear hPP
      have HMORE : Hid (preB q s.data.toList k = false → ∀ j, j < k + 1 → preB q s.data.toList j = false) := Lib.hid (fun h j hj => by
        rcases Nat.lt_or_ge j k with h2 | h2
        · exact HJ.out j h2
        · rw [show j = k from by omega]; exact h)
      by_cases hge : P.size + 2 ≤ s.size
      · have hgI : (P.size : Int) + 2 ≤ (s.size : Int) := by omega
        have hPs : (P.size : Int) < (s.size : Int) := by omega
        have hPe : (P.size : Int) ≤ (s.size : Int) := by omega
        have hlast : (s.size : Int) - 1 < (s.size : Int) := by omega
        have hl0 : (0 : Int) ≤ (s.size : Int) - 1 := by omega
        have hl1 : (1 : Int) ≤ (s.size : Int) := by omega
        have hln : ((s.size : Int) - 1).toNat = s.size - 1 := by omega
        have hlw : IntKind.i64.wrap ((s.size : Int) - 1) = (s.size : Int) - 1 := IntWalk.i64_in _ (by omega)
        have hpw : IntKind.i64.wrap ((P.size : Int) + 2) = (P.size : Int) + 2 := IntWalk.i64_in _ (by omega)
        obtain ⟨b2, hb2⟩ : ∃ b, ((s.extract 0 P.size).toList == P.toList) = b := ⟨_, rfl⟩
        obtain ⟨c, hc⟩ : ∃ c, s[P.size]'(by omega) = c := ⟨_, rfl⟩
        obtain ⟨d, hd⟩ : ∃ d, s[s.size - 1]'(by omega) = d := ⟨_, rfl⟩
        have hci : ((s[P.size]'(by omega)).toNat : Int) = (c.toNat : Int) := by rw [hc]
        have hdi : ((s[s.size - 1]'(by omega)).toNat : Int) = (d.toNat : Int) := by rw [hd]
        obtain ⟨b3, hb3⟩ : ∃ b, ((c.toNat : Int) == x) = b := ⟨_, rfl⟩
        obtain ⟨b4, hb4⟩ : ∃ b, ((d.toNat : Int) == x) = b := ⟨_, rfl⟩
        have HV : Hid (preB q s.data.toList k = (b2 && b3 && b4)) := Lib.hid (by
          have t2 : decide (s.data.toList.take P.size = P.data.toList) = b2 := by
            rw [← hb2, Lib.extract_toList, Lib.toList_data, Nat.sub_zero, List.drop_zero, Bool.eq_iff_iff, decide_eq_true_eq, beq_iff_eq]
          have tq : ∀ e : UInt8, decide (e = q) = ((e.toNat : Int) == x) := by
            intro e
            rw [Bool.eq_iff_iff, decide_eq_true_eq, beq_iff_eq, HX.out]
            exact ⟨fun h => by rw [h], fun h => UInt8.toNat_inj.1 (by omega)⟩
          have t3 : s.data.toList.getD P.size 0 = c := by
            have := bytes_at (s := s) (k := P.size) (by omega)
            rw [List.getD, this, hc]; rfl
          have t4 : s.data.toList.getD (s.data.toList.length - 1) 0 = d := by
            have := bytes_at (s := s) (k := s.size - 1) (by omega)
            rw [bytes_len, List.getD, this, hd]; rfl
          rw [HPB.out, t2, t3, t4, tq c, tq d, hb3, hb4, bytes_len, decide_eq_true hge]
          rfl)
        clear hc hd HPB
        have HW : Hid (b2 = false ∨ (b2 = true ∧ b3 = false) ∨ (b2 = true ∧ b3 = true ∧ b4 = false) ∨ (b2 = true ∧ b3 = true ∧ b4 = true)) := Lib.hid (by cases b2 <;> cases b3 <;> cases b4 <;> simp)
        rcases HW.out with rfl | ⟨rfl, rfl⟩ | ⟨rfl, rfl, rfl⟩ | ⟨rfl, rfl, rfl⟩
        · have HF : Hid (preB q s.data.toList k = false) := Lib.hid (by rw [HV.out]; rfl)
          clear HW
          go_wp2_with fail
          go_quiet (fail)
          go_wp2
          go_roundw
          case rel => exact ⟨k + 1, by go_num, hlt, HMORE.out HF.out, below_up HB.out (Below.of_drews _ _), HC.out⟩
          case measure => simp [intOf]; omega
        · have HF : Hid (preB q s.data.toList k = false) := Lib.hid (by rw [HV.out]; rfl)
          clear HW
          go_wp2_with fail
          go_quiet (fail)
          go_wp2
          go_roundw
          case rel => exact ⟨k + 1, by go_num, hlt, HMORE.out HF.out, below_up HB.out (Below.of_drews _ _), HC.out⟩
          case measure => simp [intOf]; omega
        · have HF : Hid (preB q s.data.toList k = false) := Lib.hid (by rw [HV.out]; rfl)
          clear HW
          go_wp2_with fail
          go_quiet (fail)
          go_wp2
          go_roundw
          case rel => exact ⟨k + 1, by go_num, hlt, HMORE.out HF.out, below_up HB.out (Below.of_drews _ _), HC.out⟩
          case measure => simp [intOf]; omega
        · have HF : Hid (preB q s.data.toList k = true) := Lib.hid (by rw [HV.out]; rfl)
          clear HW
          go_wp2_with fail
          go_quiet (fail)
          go_wp2
          go_ret
          exact int_new (HY.out HF.out).symm (below_up HB.out (Below.of_drews _ _))
      · have HF : Hid (preB q s.data.toList k = false) := Lib.hid (by rw [HPB.out, bytes_len, decide_eq_false hge]; rfl)
        have hgI : ¬ (P.size : Int) + 2 ≤ (s.size : Int) := by omega
        have hgB : decide ((P.size : Int) + 2 ≤ (s.size : Int)) = false := decide_eq_false hgI
        have hpw : IntKind.i64.wrap ((P.size : Int) + 2) = (P.size : Int) + 2 := IntWalk.i64_in _ (by omega)
        go_wp2_with fail
        go_quiet (fail)
        go_wp2
        go_roundw
        case rel => exact ⟨k + 1, by go_num, hlt, HMORE.out HF.out, below_up HB.out (Below.of_drews _ _), HC.out⟩
        case measure => simp [intOf]; omega
    · obtain rfl : k = 5 := by omega
      go_wp2
      go_ret
      exact int_new (HNO.out HJ.out).symm HB.out

end Go.Proofs.Ytobplffailbkbaa
