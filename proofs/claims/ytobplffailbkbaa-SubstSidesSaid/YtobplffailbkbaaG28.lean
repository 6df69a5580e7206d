/-
  Texts of the proof, put together: AgRUn, MfW, AgBk.
-/
import Derived.Test.YtobplffailbkbaaG27
import Derived.Test.YtobplffailbkbaaG21
import Derived.Test.YtobplffailbkbaaG25
import Derived.Shelf.Strings.BuilderK

/-
  The document's Unquote, walked.
-/
namespace Go.Proofs.Ytobplffailbkbaa
open Go.RowKit

theorem unq_end34 (r : List UInt8) : unqL (34 :: r) = none := by cases r <;> rfl
theorem unq_end10 (r : List UInt8) : unqL (10 :: r) = none := by cases r <;> rfl
theorem unq_bad10 (r : List UInt8) : unqL (92 :: 10 :: r) = none := rfl
theorem unq_two {d : UInt8} (h : d = 34 ∨ d = 92) (r : List UInt8) : unqL (92 :: d :: r) = (unqL r).map (d :: ·) := by
  show (if (92 : UInt8) = 34 ∨ (92 : UInt8) = 10 then none else if (92 : UInt8) ≠ 92 then _ else if d = 34 ∨ d = 92 then (unqL r).map (d :: ·) else _) = _
  rw [if_neg (by decide), if_neg (by simp), if_pos h]
theorem unq_both {d : UInt8} (h : ¬ (d = 34 ∨ d = 92)) (h2 : d ≠ 10) (r : List UInt8) : unqL (92 :: d :: r) = (unqL r).map fun q => 92 :: d :: q := by
  show (if (92 : UInt8) = 34 ∨ (92 : UInt8) = 10 then none else if (92 : UInt8) ≠ 92 then _ else if d = 34 ∨ d = 92 then (unqL r).map (d :: ·) else if d = 10 then none else _) = _
  rw [if_neg (by decide), if_neg (by simp), if_neg h, if_neg h2]
theorem opt_map {a b : Option (List UInt8)} {x : List UInt8} {l : List UInt8} (h : a = b.map (l ++ ·)) {c : Option (List UInt8)} (h2 : b = c.map (x ++ ·)) : a = c.map ((l ++ x) ++ ·) := by
  rw [h, h2]
  cases c <;> simp

def RuRel (w : World) (s : ByteArray) (t6 t7 : Value) (wr : World) : Prop :=
  ∃ (k : Nat) (a : Option Addr) (n c : Nat) (bs : List UInt8), t6 = .slice a n c ∧ t7 = .int .i64 (k : Int) ∧ k ≤ s.size ∧ n = bs.length ∧ n ≤ k ∧ unqL s.data.toList = (unqL (s.data.toList.drop k)).map (bs ++ ·) ∧ BRow w (.slice a n c) bs wr

set_option maxRecDepth 100000 in
set_option maxHeartbeats 12800000 in
theorem runq_any (s : ByteArray) (w : World) (hs : s.size ≤ 100000) : Calls Try.prog 16 #[.string s] w (UnqPost w (dquL s.data.toList)) := by
  have HA : Hid (Calls Try.prog 34 #[.string s, .int .u8 34] w (IntNew (aheadI 34 s.data.toList) w)) := Lib.hid (rahead_any s 34 (.inl rfl) (x := 34) (by decide) w hs)
  cases ha : aheadQ 34 s.data.toList with
  | none =>
    have HD : Hid (dquL s.data.toList = none) := Lib.hid (by unfold dquL; rw [ha])
    unfold aheadI at HA
    rw [ha] at HA
    clear ha
    go_enter Try.func16, Try.ntmps16
    go_wp2_with (go_at_call 34; (with_reducible refine HA.out.mono ?_); rintro e w1 ⟨rfl, b1⟩; have HB1 := Lib.hid b1; clear b1)
    go_ret2
    exact unq_none HD.out HB1.out
  | some n =>
    unfold aheadI at HA
    rw [ha] at HA
    obtain ⟨p, i0, hp, hpn, hl⟩ := ahead_some ha
    have hlen : s.size = n + i0.length + 2 := by rw [← bytes_len, hl, con_len, hpn]
    have hrun := fun W => slice_lh s (n + 1) (s.size - 1) (by omega) (by omega) W
    have hc1 : (((n + 1 : Nat) : Int)) = (n : Int) + 1 := by omega
    have hc2 : (((s.size - 1 : Nat) : Int)) = (s.size : Int) - 1 := by omega
    rw [hc1, hc2] at hrun
    have hin : (s.extract (n + 1) (s.size - 1)).data.toList = i0 := by
      have h1 : (s.extract (n + 1) (s.size - 1)).data.toList = (s.data.toList.drop (n + 1)).take (s.size - 1 - (n + 1)) := by
        simp only [ByteArray.data_extract, Array.toList_extract, List.extract_eq_take_drop]
      rw [h1, hl, ← hpn, show s.size - 1 - (p.length + 1) = (conS 34 p i0).length - 1 - (p.length + 1) from by rw [con_len]; omega]
      exact con_mid 34 p i0
    have HD : Hid (dquL s.data.toList = unqL (s.extract (n + 1) (s.size - 1)).data.toList) := Lib.hid (by
      unfold dquL
      rw [ha, hin, hl]
      simp only
      rw [← hpn, con_mid])
    obtain ⟨I, hI⟩ : ∃ I, s.extract (n + 1) (s.size - 1) = I := ⟨_, rfl⟩
    rw [hI] at hrun HD
    have hIs : I.size ≤ 100000 := by rw [← hI, ByteArray.size_extract]; omega
    have hn2 : (n : Int) ≤ 100000 := by omega
    have hn3 : (0 : Int) ≤ (n : Int) := by omega
    have hn4 : ¬ (n : Int) < 0 := by omega
    clear ha hp hpn hl hlen hc1 hc2 hin hI
    go_enter Try.func16, Try.ntmps16
    go_wp2_with (go_at_call 34; (with_reducible refine HA.out.mono ?_); rintro e w1 ⟨rfl, b1⟩; have HB1 := Lib.hid b1; clear b1)
    clear hrun HA
    go_loopw [6, 7] (RuRel w1 I) (fun _ i _ => I.size - (intOf i).toNat)
    case atStart => exact ⟨0, none, 0, 0, [], rfl, rfl, Nat.zero_le _, rfl, Nat.zero_le _, by rw [List.drop_zero]; cases unqL I.data.toList <;> rfl, up_nil w1 _ 1⟩
    case round =>
      obtain ⟨k, a, m, cp, bs, rfl, rfl, hk, hm, hmk, hE, hB⟩ := hrel
      have HB := Lib.hid hB
      have HE := Lib.hid hE
      have HM := Lib.hid hm
      have HBW := Lib.hid hB.2
      have hml : bs.length ≤ 100000 := by omega
      clear hB hE hm
      by_cases hlt : k < I.size
      · obtain ⟨c, hc⟩ : ∃ c, I[k] = c := ⟨_, rfl⟩
        have HDK := Lib.hid (drop_byte hlt hc)
        have hci : ((I[k]'hlt).toNat : Int) = (c.toNat : Int) := by rw [hc]
        have hkI : (k : Int) < (I.size : Int) := by omega
        have hk0 : (0 : Int) ≤ (k : Int) := by omega
        have hks : (k : Int) ≤ 100000 := by omega
        clear hc
        have h34 := byte_isB c 34 (by decide)
        have h10 := byte_isB c 10 (by decide)
        have h92 := byte_isB c 92 (by decide)
        have tx : ∀ j : Nat, ∀ b : Bool, decide (c = UInt8.ofNat j) = b → (((c.toNat : Nat) : Int) == ((j : Nat) : Int)) = decide (c = UInt8.ofNat j) → (((c.toNat : Nat) : Int) == ((j : Nat) : Int)) = b := fun j b h1 h2 => h2.trans h1
        by_cases e34 : c = 34
        · have t34 : ((c.toNat : Int) == 34) = true := tx 34 true (by rw [e34]; rfl) h34
          have HN : Hid (dquL s.data.toList = none) := Lib.hid (by rw [HD.out, HE.out, HDK.out, e34, unq_end34]; rfl)
          clear h34 h10 h92 tx e34
          go_wp2
          go_ret2
          exact unq_none HN.out (below_up HB1.out HBW.out)
        · have t34 : ((c.toNat : Int) == 34) = false := tx 34 false (decide_eq_false e34) h34
          by_cases e10 : c = 10
          · have t10 : ((c.toNat : Int) == 10) = true := tx 10 true (by rw [e10]; rfl) h10
            have HN : Hid (dquL s.data.toList = none) := Lib.hid (by rw [HD.out, HE.out, HDK.out, e10, unq_end10]; rfl)
            clear h34 h10 h92 tx e34 e10
            go_wp2
            go_ret2
            exact unq_none HN.out (below_up HB1.out HBW.out)
          · have t10 : ((c.toNat : Int) == 10) = false := tx 10 false (decide_eq_false e10) h10
            by_cases e92 : c = 92
            · have t92 : ((c.toNat : Int) == 92) = true := tx 92 true (by rw [e92]; rfl) h92
              have t92n : ((c.toNat : Int) != 92) = false := by simp only [bne, t92]; rfl
              clear h34 h10 h92 tx e34 e10
              by_cases hlt2 : k + 1 < I.size
              · obtain ⟨d, hd⟩ : ∃ d, I[k + 1] = d := ⟨_, rfl⟩
                have HDK2 := Lib.hid (drop_byte hlt2 hd)
                have hdi : ((I[k + 1]'hlt2).toNat : Int) = (d.toNat : Int) := by rw [hd]
                have hk2 : (k : Int) + 1 < (I.size : Int) := by omega
                have hke : ((k : Int) + 1 == (I.size : Int)) = false := by simp; omega
                clear hd
                have g34 := byte_isB d 34 (by decide)
                have g10 := byte_isB d 10 (by decide)
                have g92 := byte_isB d 92 (by decide)
                have ty : ∀ j : Nat, ∀ b : Bool, decide (d = UInt8.ofNat j) = b → (((d.toNat : Nat) : Int) == ((j : Nat) : Int)) = decide (d = UInt8.ofNat j) → (((d.toNat : Nat) : Int) == ((j : Nat) : Int)) = b := fun j b h1 h2 => h2.trans h1
                by_cases f : d = 34 ∨ d = 92
                · have HNX : Hid (unqL I.data.toList = (unqL (I.data.toList.drop (k + 1 + 1))).map ((bs ++ [d]) ++ ·)) := Lib.hid (opt_map HE.out (by rw [HDK.out, HDK2.out, e92, unq_two f]; rfl))
                  have HW : Hid (((d.toNat : Int) == 34) = true ∨ (((d.toNat : Int) == 34) = false ∧ ((d.toNat : Int) == 92) = true)) := Lib.hid (by
                    by_cases f1 : d = 34
                    · exact .inl (ty 34 true (by rw [f1]; rfl) g34)
                    · exact .inr ⟨ty 34 false (decide_eq_false f1) g34, ty 92 true (by rw [f.resolve_left f1]; rfl) g92⟩)
                  clear g34 g10 g92 ty f e92
                  rcases HW.out with s34 | ⟨s34, s92⟩
                  all_goals (
                    go_wp2_with (at_builtin; (refine wpList_append_sl rfl (.tmp 80) (.tmp 84) 35 rfl _ (brow_push (HB.out.over ((Below.refl _ _).alloc (Nat.le_refl _) _)) HM.out d (x := (d.toNat : Int)) rfl (src_one _ _ _) (by omega)) ?_; rintro b9 n9 c9 w9 ⟨hn9, h9⟩; have HN9 := Lib.hid hn9; have HB9 := Lib.hid h9; clear hn9 h9))
                    go_roundw
                    case rel => exact ⟨k + 1 + 1, some ⟨b9, 0, none⟩, n9, c9, bs ++ [d], rfl, by go_num, by omega, by rw [HN9.out, HM.out, List.length_append]; rfl, by have := HN9.out; omega, HNX.out, HB9.out⟩
                    case measure => simp [intOf]; omega)
                · have s34 : ((d.toNat : Int) == 34) = false := ty 34 false (decide_eq_false fun e => f (.inl e)) g34
                  have s92 : ((d.toNat : Int) == 92) = false := ty 92 false (decide_eq_false fun e => f (.inr e)) g92
                  by_cases f10 : d = 10
                  · have s10 : ((d.toNat : Int) == 10) = true := ty 10 true (by rw [f10]; rfl) g10
                    have HN : Hid (dquL s.data.toList = none) := Lib.hid (by rw [HD.out, HE.out, HDK.out, HDK2.out, e92, f10, unq_bad10]; rfl)
                    clear g34 g10 g92 ty f f10 e92
                    go_wp2
                    go_ret2
                    exact unq_none HN.out (below_up HB1.out HBW.out)
                  · have s10 : ((d.toNat : Int) == 10) = false := ty 10 false (decide_eq_false f10) g10
                    have HNX : Hid (unqL I.data.toList = (unqL (I.data.toList.drop (k + 1 + 1))).map (((bs ++ [92]) ++ [d]) ++ ·)) := Lib.hid (by
                      rw [List.append_assoc]
                      exact opt_map HE.out (by rw [HDK.out, HDK2.out, e92, unq_both f f10]; rfl))
                    clear g34 g10 g92 ty f f10 e92
                    go_wp2_with (at_builtin; first
                      | (refine wpList_append_sl rfl (.tmp 25) (.tmp 26) 35 rfl _ (brow_push (HB.out.over ((Below.refl _ _).alloc (Nat.le_refl _) _)) HM.out 92 (x := 92) (by decide) (src_one _ _ _) (by omega)) ?_; rintro b8 n8 c8 w8 ⟨hn8, h8⟩; have HN8 := Lib.hid hn8; have HB8 := Lib.hid h8; clear hn8 h8)
                      | (refine wpList_append_sl rfl (.tmp 80) (.tmp 84) 35 rfl _ (brow_push (HB8.out.over ((Below.refl _ _).alloc (Nat.le_refl _) _)) (by rw [HN8.out, HM.out, List.length_append]; rfl) d (x := (d.toNat : Int)) rfl (src_one _ _ _) (by rw [List.length_append]; show bs.length + 1 ≤ _; omega)) ?_; rintro b9 n9 c9 w9 ⟨hn9, h9⟩; have HN9 := Lib.hid hn9; have HB9 := Lib.hid h9; clear hn9 h9))
                    go_roundw
                    case rel => exact ⟨k + 1 + 1, some ⟨b9, 0, none⟩, n9, c9, (bs ++ [92]) ++ [d], rfl, by go_num, by omega, by rw [HN9.out, HN8.out, HM.out, List.length_append, List.length_append]; rfl, by have := HN9.out; have := HN8.out; omega, HNX.out, HB9.out⟩
                    case measure => simp [intOf]; omega
              · have hke : ((k : Int) + 1 == (I.size : Int)) = true := by simp; omega
                have HN : Hid (dquL s.data.toList = none) := Lib.hid (by
                  rw [HD.out, HE.out, HDK.out, List.drop_of_length_le (by rw [bytes_len]; omega), e92]
                  rfl)
                clear e92
                go_wp2
                go_ret2
                exact unq_none HN.out (below_up HB1.out HBW.out)
            · have t92 : ((c.toNat : Int) == 92) = false := tx 92 false (decide_eq_false e92) h92
              have t92n : ((c.toNat : Int) != 92) = true := by simp only [bne, t92]; rfl
              have HNX : Hid (unqL I.data.toList = (unqL (I.data.toList.drop (k + 1))).map ((bs ++ [c]) ++ ·)) := Lib.hid (opt_map HE.out (by rw [HDK.out, unqL_one ⟨e34, e10, e92⟩]; rfl))
              clear h34 h10 h92 tx e34 e10 e92
              go_wp2_with (at_builtin; (refine wpList_append_sl rfl (.tmp 80) (.tmp 84) 35 rfl _ (brow_push (HB.out.over ((Below.refl _ _).alloc (Nat.le_refl _) _)) HM.out c (x := (c.toNat : Int)) rfl (src_one _ _ _) (by omega)) ?_; rintro b9 n9 c9 w9 ⟨hn9, h9⟩; have HN9 := Lib.hid hn9; have HB9 := Lib.hid h9; clear hn9 h9))
              go_roundw
              case rel => exact ⟨k + 1, some ⟨b9, 0, none⟩, n9, c9, bs ++ [c], rfl, by go_num, by omega, by rw [HN9.out, HM.out, List.length_append]; rfl, by have := HN9.out; omega, HNX.out, HB9.out⟩
              case measure => simp [intOf]; omega
      · have hkI : ¬ (k : Int) < (I.size : Int) := by omega
        have HN : Hid (dquL s.data.toList = some bs) := Lib.hid (by
          rw [HD.out, HE.out, List.drop_of_length_le (by rw [bytes_len]; omega)]
          simp [unqL])
        have hcv : (convert 35 9 (.slice a m cp)).run Try.prog wr = .ok (.string ⟨bs.toArray⟩) wr := by
          have h := HB.out
          have hm := HM.out
          subst hm
          exact brow_text h
        go_wp2
        go_ret2
        exact unq_mk HN.out (below_up HB1.out HBW.out)

end Go.Proofs.Ytobplffailbkbaa

/-
  A word; tokens told as text.
-/
namespace Go.Proofs.Ytobplffailbkbaa
open Go.RowKit

def lowB (c : UInt8) : Bool := decide (97 ≤ c.toNat) && decide (c.toNat ≤ 122)
def wordB (s : ByteArray) : Bool := s.data.toList.all lowB && (!(s.toList == []) && decide (s.size ≤ 20) && !(s.toList == [100, 101, 102, 105, 110, 101, 100]))

/-- Tokens told as text. -/
def moreT : List Xt → List UInt8
  | [] => []
  | t :: r => (if t.sp then 32 :: t.x.data.toList else t.x.data.toList) ++ moreT r
def textT : List Xt → List UInt8
  | [] => []
  | t :: r => t.x.data.toList ++ moreT r
theorem moreT_snoc : ∀ (T : List Xt) (t : Xt), moreT (T ++ [t]) = moreT T ++ (if t.sp then 32 :: t.x.data.toList else t.x.data.toList)
  | [], t => by simp [moreT]
  | a :: r, t => by
    show (if a.sp then 32 :: a.x.data.toList else a.x.data.toList) ++ moreT (r ++ [t]) = _
    rw [moreT_snoc r t]
    simp [moreT]
theorem textT_snoc (T : List Xt) (t : Xt) : textT (T ++ [t]) = textT T ++ (if decide (0 < T.length) && t.sp then 32 :: t.x.data.toList else t.x.data.toList) := by
  cases T with
  | nil => simp [textT, moreT]
  | cons a r =>
    show a.x.data.toList ++ moreT (r ++ [t]) = _
    rw [moreT_snoc r t]
    simp [textT]

theorem moreT_app : ∀ (A B : List Xt), moreT (A ++ B) = moreT A ++ moreT B
  | [], B => rfl
  | a :: r, B => by
    show (if a.sp then 32 :: a.x.data.toList else a.x.data.toList) ++ moreT (r ++ B) = _
    rw [moreT_app r B]
    simp [moreT]
theorem textT_le (T : List Xt) (k : Nat) : (textT (T.take k)).length ≤ (textT T).length := by
  match T, k with
  | [], k => simp [textT]
  | a :: r, 0 => simp [textT]
  | a :: r, k + 1 =>
    have h : moreT r = moreT (r.take k) ++ moreT (r.drop k) := by rw [← moreT_app, List.take_append_drop]
    show (a.x.data.toList ++ moreT (r.take k)).length ≤ (a.x.data.toList ++ moreT r).length
    rw [h]
    simp only [List.length_append]
    omega
theorem bs_app (a b : List UInt8) : (⟨a.toArray⟩ : ByteArray) ++ ⟨b.toArray⟩ = ⟨(a ++ b).toArray⟩ := by
  apply ByteArray.ext
  simp
theorem bs_more {z x : ByteArray} {a : List UInt8} (h : z = ⟨a.toArray⟩) : z ++ x = ⟨(a ++ x.data.toList).toArray⟩ := by
  subst h
  apply ByteArray.ext
  simp
theorem bs_more32 {z x : ByteArray} {a : List UInt8} (h : z = ⟨a.toArray⟩) : z ++ ⟨#[32]⟩ ++ x = ⟨(a ++ 32 :: x.data.toList).toArray⟩ := by
  subst h
  apply ByteArray.ext
  simp

set_option maxRecDepth 100000 in
set_option maxHeartbeats 1600000 in
theorem text9_any {T : List Xt} {v : Value} {w : World} (h : ToksX T v w) (hz : (textT T).length ≤ 1000000) : Calls Try.prog 19 #[v] w (fun e w' => e = .returned (.string ⟨(textT T).toArray⟩) ∧ w = w') := by
  obtain ⟨a, n, cap, rfl⟩ := h.form
  obtain ⟨hn, hc1, hc2⟩ := h.len
  unfold maxLen at hc2
  have HN := Lib.hid hn
  have HX := Lib.hid h
  have HZ := Lib.hid hz
  clear h hn hz
  go_enter Try.func19, Try.ntmps19
  go_wp2
  go_loop [3, 4] (fun s i => ∃ (k : Nat) (z : ByteArray), i = .int .i64 (k : Int) ∧ s = .string z ∧ k ≤ n ∧ z = ⟨(textT (T.take k)).toArray⟩) (fun _ i => n - (intOf i).toNat)
  case atStart => exact ⟨0, _, rfl, rfl, Nat.zero_le _, rfl⟩
  case round =>
    obtain ⟨k, z, rfl, rfl, hk, hzz⟩ := hrel
    have HZZ := Lib.hid hzz
    have hzs : z.size ≤ 1000000 := by
      rw [hzz]
      exact Nat.le_trans (by show (textT (T.take k)).toArray.size ≤ _; simpa using textT_le T k) HZ.out
    clear hzz
    by_cases hlt : k < n
    · obtain ⟨t, ht⟩ : ∃ t, T[k]? = some t := ⟨_, List.getElem?_eq_getElem (by rw [← HN.out]; exact hlt)⟩
      obtain ⟨g, o, sa, sn, sc, rfl, hg, hsn, ⟨-, c1, c2, -, -, -, -, -⟩, -⟩ := HX.out.get ht
      have hts : T.take (k + 1) = T.take k ++ [t] := by rw [List.take_add_one, ht]; rfl
      have hsn2 := textT_snoc (T.take k) t
      rw [← hts] at hsn2
      have htl : (T.take k).length = k := by rw [List.length_take, ← HN.out]; omega
      rw [htl] at hsn2
      have hle := textT_le T (k + 1)
      rw [hsn2] at hle
      have hx : t.x.size ≤ 1000000 := by
        have h1 : t.x.size = t.x.data.toList.length := Array.length_toList.symm
        have := HZ.out
        rw [List.length_append] at hle
        split at hle
        · rw [List.length_cons] at hle
          omega
        · omega
      have HS2 := Lib.hid hsn2
      have q1 : (z.size + 1 > 9223372036854775807) = False := by simp; omega
      have q2 : (z.size + 1 + t.x.size > 9223372036854775807) = False := by simp; omega
      have q3 : (z.size + t.x.size > 9223372036854775807) = False := by simp; omega
      have hkI : (k : Int) < (n : Int) := by omega
      have hk0 : (0 : Int) ≤ (k : Int) := by omega
      obtain ⟨x, hxx⟩ : ∃ x, t.x = x := ⟨_, rfl⟩
      rw [hxx] at c1 q2 q3
      have HXX := Lib.hid hxx
      clear hts hsn2 htl hle hx ht hsn hxx
      by_cases h0 : 0 < k
      · have h0I : (0 : Int) < (k : Int) := by omega
        cases hsp : t.sp with
        | true =>
          rw [hsp] at c2
          go_wp2
          go_round
          case rel =>
            refine ⟨k + 1, _, by go_num, rfl, hlt, ?_⟩
            rw [HS2.out, hsp, decide_eq_true h0, HXX.out]
            exact bs_more32 HZZ.out
          case measure => simp [intOf]; omega
        | false =>
          rw [hsp] at c2
          go_wp2
          go_round
          case rel =>
            refine ⟨k + 1, _, by go_num, rfl, hlt, ?_⟩
            rw [HS2.out, hsp, HXX.out, Bool.and_false]
            exact bs_more HZZ.out
          case measure => simp [intOf]; omega
      · have h0I : ¬ (0 : Int) < (k : Int) := by omega
        go_wp2
        go_round
        case rel =>
          refine ⟨k + 1, _, by go_num, rfl, hlt, ?_⟩
          rw [HS2.out, decide_eq_false h0, HXX.out]
          exact bs_more HZZ.out
        case measure => simp [intOf]; omega
    · obtain rfl : k = n := by omega
      have hge : ¬ ((k : Int) < (k : Int)) := by omega
      have htk : T.take k = T := List.take_of_length_le (by rw [← HN.out]; exact Nat.le_refl _)
      have HE : Hid (z = ⟨(textT T).toArray⟩) := Lib.hid (by rw [HZZ.out, htk])
      clear htk
      go_wp2
      go_ret
      exact ⟨by rw [HE.out]; rfl, rfl⟩

end Go.Proofs.Ytobplffailbkbaa

/-
  A Builder beside other memory: what is no row of bytes stays.
-/
namespace Go.Proofs.Ytobplffailbkbaa
open Go.RowKit

/-- The Builder in block c holds these bytes. -/
def BldK (c : Nat) (l : List UInt8) (w : World) : Prop := Lib.IsBuilderF 131 5 c c (Lib.byteCells l) w
/-- Nothing else has changed. -/
def KeptB (c : Nat) (w w' : World) : Prop := Below c w w' ∧ Lib.OthersKept 5 (some c) w w'
def BlkPost (v : Value) (c : Nat) (l : List UInt8) (w : World) (e : Ending) (w' : World) : Prop := e = .returned v ∧ BldK c l w' ∧ KeptB c w w'
theorem bldk_new (w : World) : BldK w.heap.size [] (w.alloc (.cells #[.pointer none, .slice none 0 0] 131)) := Lib.IsBuilderF.of (bld_new w)
theorem blk_byte {c : Nat} {l : List UInt8} {w : World} (h : BldK c l w) (b : UInt8) {n : Int} (hn : n = (b.toNat : Int)) (hl : l.length ≤ 10000000) (hc : c ≤ w.heap.size) : Calls Try.prog 93 #[.pointer (some ⟨c, 0, none⟩), .int .u8 n] w (BlkPost .nilIface c (l ++ [b]) w) := by
  subst hn
  refine (Any.Builder_WriteByte_k Try.lays167x Try.extra166x c c _ (b.toNat : Int) w h (by rw [Lib.byteCells_length]; omega) hc).mono ?_
  rintro e w' ⟨rfl, hb, hbel, hk⟩
  refine ⟨rfl, .inr ?_, hbel, hk⟩
  rw [show [Value.int .u8 (b.toNat : Int)] = Lib.byteCells [b] from rfl, ← Lib.byteCells_append] at hb
  exact hb
theorem blk_text {c : Nat} {l : List UInt8} {w : World} (h : BldK c l w) (s : ByteArray) (hl : l.length + s.size ≤ 10000000) (hc : c ≤ w.heap.size) : Calls Try.prog 95 #[.pointer (some ⟨c, 0, none⟩), .string s] w (BlkPost (.tuple #[.int .i64 s.size, .nilIface]) c (l ++ s.data.toList) w) := by
  refine (Any.Builder_WriteString_k Try.lays166x Try.extra166x c c _ s w h (by rw [Lib.byteCells_length]; omega) hc).mono ?_
  rintro e w' ⟨rfl, hb, hbel, hk⟩
  refine ⟨rfl, .inr ?_, hbel, hk⟩
  rw [Lib.strCells_eq, ← Lib.byteCells_append] at hb
  exact hb
theorem blk_str {c : Nat} {l : List UInt8} {w : World} (h : BldK c l w) (hc : c ≤ w.heap.size) : Calls Try.prog 94 #[.pointer (some ⟨c, 0, none⟩)] w fun e w' => e = .returned (.string ⟨l.toArray⟩) ∧ Below c w w' :=
  (Any.Builder_String_any_k Try.lays169 Try.Builder_Extra_169 c c l w h hc).mono fun _ _ ⟨he, _, hb, _⟩ => ⟨he, hb⟩
theorem ownF_same {B : Nat} {e : TypeId} {size n : Nat} {v : Value} {xs : List Value} {w w' : World} (h : w.ownsRowF B e size v n xs) (hb : ∀ g, g < w.heap.size → w'.heap[g]? = w.heap[g]?) : w'.ownsRowF B e size v n xs := by
  refine ⟨h.1, ?_⟩
  rcases h.2 with hn | ⟨g, cap, cur, fz, rfl, h1, h2, rest⟩
  · exact .inl hn
  · exact .inr ⟨g, cap, cur, fz, rfl, h1, (hb g (row_lt h2)).trans h2, rest⟩
theorem bldk_over {c : Nat} {l : List UInt8} {w w' : World} (h : BldK c l w) (b : Below w.heap.size w w') : BldK c l w' := by
  have mv : ∀ p, Lib.BuilderAtF 131 5 c c p (Lib.byteCells l) w → Lib.BuilderAtF 131 5 c c p (Lib.byteCells l) w' := by
    intro p hp
    obtain ⟨hB, v, hb, hown, hne⟩ := hp
    exact ⟨hB, v, (b.block c (row_lt hb)).trans hb, ownF_same hown fun g hg => b.block g hg, hne⟩
  exact h.elim (fun x => .inl (mv _ x)) (fun x => .inr (mv _ x))
theorem bldk_lt {c : Nat} {l : List UInt8} {w : World} (h : BldK c l w) : c < w.heap.size := by
  rcases h with ⟨-, v, hb, -⟩ | ⟨-, v, hb, -⟩ <;> exact row_lt hb
/-- A token's box beside it stays. -/
theorem KeptB.box {c b : Nat} {w w' : World} (h : KeptB c w w') {cs : Array Value} {fz : Nat × Nat} (hb : w.heap[b]? = some (.cells cs 26 fz)) (hne : b ≠ c) : w'.heap[b]? = some (.cells cs 26 fz) :=
  h.2 b _ hb (fun e => hne (Option.some.inj e)) fun c' f e => by
    simp only [Obj.cells.injEq] at e
    exact absurd e.2.1 (by decide)

end Go.Proofs.Ytobplffailbkbaa
