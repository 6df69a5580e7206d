/-
  LexLongest, walked.
-/
import Derived.Test.YtpnboieppkjfnaaLongL
import Derived.Test.YtpnboieppkjfnaaLBytes
import Derived.ChangeSlices
namespace Go.Proofs.Ytpnboieppkjfnaa
open Go.RowKit

theorem sg_byte_row (w : World) (c : UInt8) : BRow w (.slice (some ⟨w.heap.size, 0, none⟩) 1 1) [c] (w.alloc (.cells #[.int .u8 (c.toNat : Int)] 5)) :=
  ⟨⟨rfl, .inr ⟨w.heap.size, 1, #[.int .u8 (c.toNat : Int)], rfl, Nat.le_refl _, heap_alloc_new _ _, Nat.le_refl _, by unfold maxLen; omega, rfl, rfl⟩⟩, (Below.refl _ _).alloc (Nat.le_refl _) _⟩
theorem sg_byte_text (w : World) (c : UInt8) : (convert 46 9 (.slice (some ⟨w.heap.size, 0, none⟩) 1 1)).run Try.prog (w.alloc (.cells #[.int .u8 (c.toNat : Int)] 5)) = .ok (.string ⟨#[c]⟩) (w.alloc (.cells #[.int .u8 (c.toNat : Int)] 5)) :=
  brow_text (bs := [c]) (sg_byte_row w c)

/-- Round: somewhere from 0 to n - 1. -/
theorem roundL_any (a : Int) (n : Nat) (h1 : 1 ≤ n) (hn : n ≤ 1000000) (w : World) :
    Calls Try.prog 15 #[.int .i64 a, .int .i64 (n : Int)] w fun e w' => (∃ k : Nat, k < n ∧ e = .returned (.int .i64 (k : Int))) ∧ w = w' := by
  obtain ⟨m, hm⟩ : ∃ m, a.tmod (n : Int) = m := ⟨_, rfl⟩
  have hm1 : m < n := by rw [← hm]; exact Int.tmod_lt_of_pos _ (by omega)
  have hm2 : -(n : Int) < m := by
    rw [← hm]
    have := Int.lt_tmod_of_pos a (b := (n : Int)) (by omega)
    omega
  have hn0 : ¬ ((n : Int) = 0) := by omega
  go_enter Try.func15, Try.ntmps15
  go_wp2
  go_ret
  have r1 := Int.emod_nonneg (m + n) hn0
  have r2 := Int.emod_lt_of_pos (m + n) (b := (n : Int)) (by omega)
  exact ⟨⟨((m + n) % (n : Int)).toNat, by omega, ret_nat (by omega)⟩, rfl⟩

/-- A row of numbers that came in. -/
def IntsAt (a : Option Addr) (ks : List Int) (w : World) : Prop := ∀ i x, ks[i]? = some x → ∃ ad, a = some ad ∧ ad.block < w.heap.size ∧ w.cell? (ad.add i) = some (.int .i64 x)

set_option maxRecDepth 100000 in
theorem long_void {a : Option Addr} {n cap : Nat} (W : World) (h : n = 0 ∨ 12 < n) (hn : n ≤ 9223372036854775807) : Calls Try.prog 6 #[.slice a n cap] W (AwakePost W) := by
  rcases h with rfl | h
  · go_enter Try.func6, Try.ntmps6
    go_wp2_with (go_at_call 8; (with_reducible refine (awake_any _).mono ?_); rintro e w1 ⟨rfl, b1⟩)
    go_ret
    exact ⟨rfl, b1⟩
  · have h0 : ((n : Int) == 0) = false := by rw [beq_eq_false_iff_ne]; omega
    have h1 : (12 : Int) < (n : Int) := by omega
    go_enter Try.func6, Try.ntmps6
    go_wp2_with (go_at_call 8; (with_reducible refine (awake_any _).mono ?_); rintro e w1 ⟨rfl, b1⟩)
    go_ret
    exact ⟨rfl, b1⟩

theorem mem_byte (s : ByteArray) (j : Nat) (h : j < s.size) : s[j] ∈ s.data.toList := by
  have hl : j < s.data.toList.length := by rw [len_byte]; exact h
  exact List.getElem_mem hl

theorem bytes_ext {a b : ByteArray} (h : a.data.toList = b.data.toList) : a = b := by
  obtain ⟨⟨x⟩⟩ := a
  obtain ⟨⟨y⟩⟩ := b
  simp only at h
  rw [h]

theorem sg_lit : ∀ c ∈ (⟨#[91, 93, 40, 41, 123, 125, 46, 38, 42, 43, 45, 126, 33, 47, 37, 60, 62, 61, 94, 124, 63, 58, 59, 44, 35]⟩ : ByteArray).data.toList, c ∈ SG := fun _ h => h

def PairOk (s : List UInt8) (i : Nat) : Prop := ¬ (s.getD i 0 = 47 ∧ (s.getD (i + 1) 0 = 47 ∨ s.getD (i + 1) 0 = 42)) ∧ ¬ (s.getD i 0 = 63 ∧ s.getD (i + 1) 0 = 63)
theorem pair_next {s : List UInt8} {j q : Nat} (h : ∀ q, q < j → PairOk s q) (hj : PairOk s j) (hq : q < j + 1) : PairOk s q := by
  by_cases e : q = j
  · rw [e]
    exact hj
  · exact h q (by omega)

def L1Rel (W : World) (n : Nat) (sv i : Value) (wr : World) : Prop := ∃ (k : Nat) (S : ByteArray), i = .int .i64 (k : Int) ∧ k ≤ n ∧ sv = .string S ∧ S.size = k ∧ (∀ c ∈ S.data.toList, c ∈ SG) ∧ Below W.heap.size W wr
theorem l1_on {W wr : World} {n k : Nat} {S : ByteArray} {c : UInt8} {i : Int} (hk : k < n) (hS : S.size = k) (hm : ∀ c ∈ S.data.toList, c ∈ SG) (hc : c ∈ SG) (b : Below W.heap.size W wr) (hi : i = ((k + 1 : Nat) : Int)) : L1Rel W n (.string (S ++ ⟨#[c]⟩)) (.int .i64 i) wr := by
  subst hi
  refine ⟨k + 1, _, rfl, hk, rfl, by rw [ByteArray.size_append, hS]; rfl, fun d hd => ?_, b⟩
  simp only [ByteArray.data_append, Array.toList_append, List.mem_append] at hd
  rcases hd with hd | hd
  · exact hm d hd
  · simp only [List.mem_cons, List.not_mem_nil, or_false] at hd
    rw [hd]
    exact hc

/-- A text that is itself a punctuator. -/
theorem one_five {s : ByteArray} {X : World} (hs : s.size ≤ 100000) (h : oneL s.data.toList = some 5) : Calls Try.prog 16 #[.string s] X fun e w' => e = .returned (.tuple #[.agg #[.int .i64 5, .string s, .bool false, .string ⟨#[]⟩, .int .i64 0, .int .i64 0, .bool false, .slice none 0 0], .bool true]) ∧ Below X.heap.size X w' := by
  have ho := one_any s X hs
  unfold onePost at ho
  rw [h] at ho
  exact ho
def NotFive (X : World) (e : Ending) (w' : World) : Prop := ∃ (kd : Nat) (q : ByteArray) (b : Bool), e = .returned (.tuple #[.agg #[.int .i64 (kd : Int), .string q, .bool false, .string ⟨#[]⟩, .int .i64 0, .int .i64 0, .bool false, .slice none 0 0], .bool b]) ∧ (b = true → ((kd : Int) == 5) = false) ∧ Below X.heap.size X w'
theorem one_notF {s : ByteArray} {X : World} (hs : s.size ≤ 100000) (h : oneL s.data.toList ≠ some 5) : Calls Try.prog 16 #[.string s] X (NotFive X) := by
  have ho := one_any s X hs
  unfold onePost at ho
  refine ho.mono ?_
  rintro e w' ⟨he, hb⟩
  cases hc : oneL s.data.toList with
  | none =>
    rw [hc] at he
    exact ⟨0, ⟨#[]⟩, false, he, (by intro h; cases h), hb⟩
  | some k =>
    rw [hc] at he h
    refine ⟨k, s, true, he, fun _ => ?_, hb⟩
    rw [beq_eq_false_iff_ne]
    intro e5
    apply h
    rw [show k = 5 from by omega]

/-- One line, without anything told. -/
def OneLine (F : ByteArray) (T : List Tk) (X : World) (e : Ending) (w' : World) : Prop :=
  ∃ g lc da dc tg tc, e = .returned (.tuple #[.slice (some ⟨g, 0, none⟩) 1 lc, .slice da 0 dc]) ∧ 1 ≤ lc ∧ lc ≤ maxLen ∧ g < w'.heap.size ∧ w'.cell? ⟨g, 0, none⟩ = some (.slice tg T.length tc) ∧ ToksAt F T (.slice tg T.length tc) w' ∧ Below X.heap.size X w'
theorem one_line {F s : ByteArray} {X : World} {T : List Tk} {f t : Nat} (hs : s.size ≤ 100000) (hF : F.size ≤ 1000000) (hl : (linesA (charsL s.data.toList) s.size).lines = [⟨T, f, t, false⟩]) (hd : (linesA (charsL s.data.toList) s.size).diags = []) : Calls Try.prog 9 #[.string F, .string s] X (OneLine F T X) := by
  refine (lines_any F s X hs hF).mono ?_
  rintro e w' ⟨la, n, lc, da, m, dc, rfl, hn, hm, hr, -⟩
  rw [hl] at hn hr
  rw [hd] at hm
  simp only [List.length_cons, List.length_nil] at hn hm
  subst hn hm
  have hlow := hr.low
  obtain ⟨a, cap, hv, c1, c2, h3⟩ := hr.at
  simp only [Value.slice.injEq, List.length_cons, List.length_nil] at hv
  obtain ⟨rfl, -, rfl⟩ := hv
  obtain ⟨g, tv, rfl, hg, k0, -, -, -, hT⟩ := h3 0 _ rfl
  have hT2 := hT
  obtain ⟨ta, tc, rfl, -⟩ := hT2
  exact ⟨g, lc, da, dc, ta, tc, rfl, c1, c2, hg, by simpa using k0, hT, hlow⟩

set_option maxRecDepth 100000 in
set_option maxHeartbeats 6400000 in
theorem long_main {a : Option Addr} {cap : Nat} (ks : List Int) (W : World) (hS : IntsAt a ks W) (hn1 : 1 ≤ ks.length) (hn2 : ks.length ≤ 12) : Calls Try.prog 6 #[.slice a ks.length cap] W (AwakePost W) := by
  have h0 : ((ks.length : Int) == 0) = false := by rw [beq_eq_false_iff_ne]; omega
  have h1 : ¬ (12 : Int) < (ks.length : Int) := by omega
  have HS := Lib.hid hS
  clear hS
  go_enter Try.func6, Try.ntmps6
  go_wp2
  obtain ⟨Z, hZ⟩ : ∃ Z : ByteArray, (⟨#[91, 93, 40, 41, 123, 125, 46, 38, 42, 43, 45, 126, 33, 47, 37, 60, 62, 61, 94, 124, 63, 58, 59, 44, 35]⟩ : ByteArray) = Z := ⟨_, rfl⟩
  have hZs : Z.size = 25 := by rw [← hZ]; rfl
  have HZM : Hid (∀ c ∈ Z.data.toList, c ∈ SG) := Lib.hid (by rw [← hZ]; exact sg_lit)
  rw [hZ]
  clear hZ
  go_loopw [4, 5] (fun sv i wr => L1Rel W ks.length sv i wr) (fun _ i _ => ks.length - (intOf i).toNat)
  case atStart => exact ⟨0, ⟨#[]⟩, rfl, Nat.zero_le _, rfl, rfl, (by intro c hc; cases hc), Below.refl _ _⟩
  case round =>
    obtain ⟨k, S, rfl, hk, rfl, hSs, hm, hb⟩ := hrel
    have HM := Lib.hid hm
    have HB := Lib.hid hb
    have HSS := Lib.hid hSs
    have hS12 : S.size ≤ 12 := by omega
    clear hm hb
    by_cases hlt : k < ks.length
    · obtain ⟨x, hx⟩ : ∃ x, ks[k]? = some x := ⟨_, List.getElem?_eq_getElem hlt⟩
      obtain ⟨ad, rfl, hadl, hac⟩ := HS.out k x hx
      have hac2 : wr.cell? (ad.add k) = some (.int .i64 x) := (HB.out.cell (by rw [add_block2]; exact hadl)).trans hac
      have hkI : (k : Int) < (ks.length : Int) := by omega
      have HRD : Hid (∀ X : World, Calls Try.prog 15 #[.int .i64 x, .int .i64 25] X fun e w' => (∃ k : Nat, k < 25 ∧ e = .returned (.int .i64 (k : Int))) ∧ X = w') := Lib.hid (fun X => roundL_any x 25 (by omega) (by omega) X)
      have HBT := Lib.hid (fun c => sg_byte_text wr c)
      clear hac hx hSs
      go_wp2_with (go_at_call 15; ((with_reducible refine (HRD.out _).mono ?_); rintro e w' ⟨⟨j, hj, rfl⟩, rfl⟩; have hjz : j < Z.size := (by rw [hZs]; exact hj); have hjI : (j : Int) < 25 := (by omega); have ht := HBT.out Z[j]; have HZJ : Hid (Z[j] ∈ SG) := Lib.hid (HZM.out _ (by exact mem_byte Z j hjz))))
      go_roundw
      case rel => exact l1_on hlt HSS.out HM.out HZJ.out (HB.out.alloc HB.out.size _) (by simp)
      case measure => simp [intOf]; omega
    · have hkI : ¬ (k : Int) < (ks.length : Int) := by omega
      have hke : k = ks.length := by omega
      have hS1 : 1 ≤ S.size := by omega
      clear hSs
      go_wp2
      go_loop [6] (fun i => ∃ j : Nat, i = .int .i64 ((j : Int) + 1) ∧ j + 1 ≤ S.size ∧ ∀ q, q < j → PairOk S.data.toList q) (fun i => S.size - (intOf i).toNat)
      case atStart => exact ⟨0, rfl, hS1, fun q hq => by omega⟩
      case round =>
        obtain ⟨j, rfl, hj, hall⟩ := hrel
        have HA := Lib.hid hall
        clear hall
        by_cases hjs : j + 1 < S.size
        · have hjI : (j : Int) + 1 < (S.size : Int) := by omega
          have hj0 : j < S.size := by omega
          have g0 := get_byte S j hj0
          have g1 := get_byte S (j + 1) hjs
          by_cases c47 : S[j] = 47
          · have b47 : (((S[j].toNat : Nat) : Int) == 47) = true := by rw [c47]; rfl
            have b63 : (((S[j].toNat : Nat) : Int) == 63) = false := by rw [c47]; rfl
            by_cases d47 : S[j + 1] = 47
            · have x47 : (((S[j + 1].toNat : Nat) : Int) == 47) = true := by rw [d47]; rfl
              clear g0 g1 c47 d47
              go_wp2_with (go_at_call 8; (with_reducible refine (awake_any _).mono ?_); rintro e w1 ⟨rfl, b1⟩; have B1 := Lib.hid b1; clear b1)
              go_ret
              exact ⟨rfl, below_up HB.out B1.out⟩
            · have x47 : (((S[j + 1].toNat : Nat) : Int) == 47) = false := byte_neB (n := 47) (by omega) d47
              by_cases d42 : S[j + 1] = 42
              · have x42 : (((S[j + 1].toNat : Nat) : Int) == 42) = true := by rw [d42]; rfl
                clear g0 g1 c47 d42 d47
                go_wp2_with (go_at_call 8; (with_reducible refine (awake_any _).mono ?_); rintro e w1 ⟨rfl, b1⟩; have B1 := Lib.hid b1; clear b1)
                go_ret
                exact ⟨rfl, below_up HB.out B1.out⟩
              · have x42 : (((S[j + 1].toNat : Nat) : Int) == 42) = false := byte_neB (n := 42) (by omega) d42
                have HP : Hid (PairOk S.data.toList j) := Lib.hid ⟨by rw [g1]; rintro ⟨-, h | h⟩; exact d47 h; exact d42 h, by rw [g0, c47]; rintro ⟨h, -⟩; revert h; decide⟩
                clear g0 g1 c47 d42 d47
                go_wp2
                go_round
                case rel => exact ⟨j + 1, by go_num, by omega, fun q hq => pair_next HA.out HP.out hq⟩
                case measure => simp [intOf]; omega
          · have b47 : (((S[j].toNat : Nat) : Int) == 47) = false := byte_neB (n := 47) (by omega) c47
            by_cases c63 : S[j] = 63
            · have b63 : (((S[j].toNat : Nat) : Int) == 63) = true := by rw [c63]; rfl
              by_cases d63 : S[j + 1] = 63
              · have x63 : (((S[j + 1].toNat : Nat) : Int) == 63) = true := by rw [d63]; rfl
                clear g0 g1 c47 c63 d63
                go_wp2_with (go_at_call 8; (with_reducible refine (awake_any _).mono ?_); rintro e w1 ⟨rfl, b1⟩; have B1 := Lib.hid b1; clear b1)
                go_ret
                exact ⟨rfl, below_up HB.out B1.out⟩
              · have x63 : (((S[j + 1].toNat : Nat) : Int) == 63) = false := byte_neB (n := 63) (by omega) d63
                have HP : Hid (PairOk S.data.toList j) := Lib.hid ⟨by rw [g0]; rintro ⟨h, -⟩; exact c47 h, by rw [g1]; rintro ⟨-, h⟩; exact d63 h⟩
                clear g0 g1 c47 c63 d63
                go_wp2
                go_round
                case rel => exact ⟨j + 1, by go_num, by omega, fun q hq => pair_next HA.out HP.out hq⟩
                case measure => simp [intOf]; omega
            · have b63 : (((S[j].toNat : Nat) : Int) == 63) = false := byte_neB (n := 63) (by omega) c63
              have HP : Hid (PairOk S.data.toList j) := Lib.hid ⟨by rw [g0]; rintro ⟨h, -⟩; exact c47 h, by rw [g0]; rintro ⟨h, -⟩; exact c63 h⟩
              clear g0 g1 c47 c63
              go_wp2
              go_round
              case rel => exact ⟨j + 1, by go_num, by omega, fun q hq => pair_next HA.out HP.out hq⟩
              case measure => simp [intOf]; omega
        · have hjI : ¬ (j : Int) + 1 < (S.size : Int) := by omega
          have HSG : Hid (Sg S.data.toList) := Lib.hid ⟨HM.out, fun i hi => HA.out i (by rw [len_byte] at hi; omega)⟩
          obtain ⟨T, hT, hl, hd⟩ := sg_lines HSG.out (by rw [len_byte]; exact hS1)
          rw [len_byte] at hT hl hd
          have HL := Lib.hid (fun X => one_line (X := X) (F := ⟨#[102]⟩) (by omega) (by decide) hl hd)
          have HT := Lib.hid hT
          clear hl hd hT
          go_wp2_with (go_at_call 9; (with_reducible refine (HL.out _).mono ?_); rintro e w1 ⟨g, lc, da, dc, tg, tc, rfl, hc1, hc2, hg, hk0, hta, hb1⟩; have HTA := Lib.hid hta; have HB1 := Lib.hid hb1; clear hta hb1)
          unfold maxLen at hc2
          go_loopw [9, 10] (fun av i wx => ∃ (jn : Nat) (A : ByteArray), i = .int .i64 (jn : Int) ∧ jn ≤ T.length ∧ av = .string A ∧ A.data.toList = ((T.take jn).map Tk.x).flatten ∧ Below w1.heap.size w1 wx) (fun _ i _ => T.length - (intOf i).toNat)
          case atStart => exact ⟨0, ⟨#[]⟩, rfl, Nat.zero_le _, rfl, rfl, Below.refl _ _⟩
          case round =>
            obtain ⟨jn, A, rfl, hjn, rfl, hA, hbx⟩ := hrel
            have e0 := bcell hbx hk0 hg
            have HBX := Lib.hid hbx
            have HAA := Lib.hid hA
            clear hA
            by_cases hjt : jn < T.length
            · obtain ⟨t, ht⟩ : ∃ t, T[jn]? = some t := ⟨_, List.getElem?_eq_getElem hjt⟩
              obtain ⟨ta, tcap, hv, d1, d2, h3⟩ := HTA.out
              simp only [Value.slice.injEq] at hv
              obtain ⟨rfl, -, rfl⟩ := hv
              obtain ⟨gt, rfl, hgt, hat⟩ := h3 jn t ht
              unfold maxLen at d2
              obtain ⟨f0, f1, f2, f3, f4, f5, f6, f7⟩ := hat.next hbx hgt
              have hG := HT.out.1 t (List.mem_of_getElem? ht)
              obtain ⟨hone, hxl⟩ := hG.one
              have hk5 := hG.1
              have hsp := hG.2.1
              have hle := hG.2.2.2.1
              rw [← hxl, len_byte] at hle
              have HG := Lib.hid hG
              have hAn : A.data.toList ++ t.x = ((T.take (jn + 1)).map Tk.x).flatten := by
                rw [HAA.out, List.take_add_one, ht]
                simp
              obtain ⟨X, hX⟩ : ∃ X : ByteArray, (⟨t.x.toArray⟩ : ByteArray) = X := ⟨_, rfl⟩
              have hXd : X.data.toList = t.x := by rw [← hX]
              have hXs : X.size = t.x.length := by rw [← len_byte, hXd]
              rw [hX] at f1
              rw [hk5] at f0
              rw [hsp] at f2
              rw [← hXd] at hone hAn
              rw [← hXs] at hle
              have HAN := Lib.hid hAn
              have hAs : A.size ≤ 1000 := by
                have h1 : (A.data.toList ++ X.data.toList).length ≤ S.size := by
                  rw [hAn, ← len_byte S, ← List.take_length (l := S.data.toList), len_byte, ← HT.out.2]
                  have h2 : (T.map Tk.x).flatten = ((T.take (jn + 1)).map Tk.x).flatten ++ ((T.drop (jn + 1)).map Tk.x).flatten := by rw [← List.flatten_append, ← List.map_append, List.take_append_drop]
                  rw [h2, List.length_append]
                  omega
                rw [List.length_append, len_byte] at h1
                omega
              have HO1 := Lib.hid (fun Y => one_five (s := X) (X := Y) (by omega) hone)
              have HO2 : Hid (∀ (Y : World) (kn : Nat), X.size < kn → t.f + kn ≤ S.size → Calls Try.prog 16 #[.string (S.extract t.f (t.f + kn))] Y (NotFive Y)) := Lib.hid (fun Y kn h1 h2 => one_notF (by rw [ByteArray.size_extract]; omega) (by
                rw [ext_data, Nat.add_sub_cancel_left]
                exact HG.out.longest (by rw [← hXs]; exact h1) (by rw [len_byte]; exact h2)))
              have hjI : (jn : Int) < (T.length : Int) := by omega
              clear hone hk5 hsp hxl hAn hX hXd hG ht hat h3
              go_wp2_with (go_at_call 16; (with_reducible refine (HO1.out _).mono ?_); rintro e w2 ⟨rfl, hb2⟩; have y0 := bcell_new hb2 (k := 0) rfl; have y1 := bcell_new hb2 (k := 1) rfl; have y2 := bcell_new hb2 (k := 2) rfl; have y4 := bcell_new hb2 (k := 4) rfl; have hlt2 : wr.heap.size < w2.heap.size := Nat.lt_of_lt_of_le (by simp) hb2.size; have hne2 : wr.heap.size ≠ w2.heap.size := (by omega); have HB2 := Lib.hid hb2; clear hb2)
              have hx4 : t.x.length ≤ 4 := by
                obtain ⟨p, hm, -, he⟩ := punctN_is HG.out.2.2.1
                have := PL_len p hm
                have := HG.out.one.2
                omega
              obtain ⟨w3, hw3⟩ : ∃ w3, w2.alloc (.cells #[.int .i64 5, .string X, .bool false, .string ⟨#[]⟩, .int .i64 0, .int .i64 0, .bool false, .slice none 0 0] 41) = w3 := ⟨_, rfl⟩
              have hb3 : Below w2.heap.size w2 w3 := by rw [← hw3]; exact (Below.refl _ _).alloc (Nat.le_refl _) _
              have y43 := bcell hb3 y4 hlt2
              have hlt3 : wr.heap.size < w3.heap.size := Nat.lt_of_lt_of_le hlt2 hb3.size
              have HB3 : Hid (Below w1.heap.size w1 w3) := Lib.hid (below_up (below_up (HBX.out.alloc HBX.out.size _) HB2.out) hb3)
              rw [hw3]
              clear hw3 hb3 y0 y1 y2 y4
              have HXS := Lib.hid hXs
              clear hXs
              obtain ⟨bt, hbt⟩ : ∃ bt, wr.heap.size = bt := ⟨_, rfl⟩
              rw [hbt] at y43 hlt3 ⊢
              clear hbt
              go_loopw [14] (fun kv wy => ∃ kn : Nat, kv = .int .i64 (kn : Int) ∧ t.x.length < kn ∧ kn ≤ 5 ∧ Below w3.heap.size w3 wy) (fun kv _ => 5 - (intOf kv).toNat)
              case atStart => exact ⟨t.x.length + 1, by go_num, by omega, by omega, Below.refl _ _⟩
              case round =>
                obtain ⟨kn, rfl, hkx, hk5, hb5⟩ := hrel
                have y45 := bcell hb5 y43 hlt3
                have hgb : bt < wr.heap.size := Nat.lt_of_lt_of_le hlt3 hb5.size
                have HB5 := Lib.hid hb5
                by_cases h4 : kn ≤ 4
                · have h4I : (kn : Int) ≤ 4 := by omega
                  by_cases hks : t.f + kn ≤ S.size
                  · have hksI : (t.f : Int) + (kn : Int) ≤ (S.size : Int) := by omega
                    have hsl : ∀ w : World, (Instr.slice 9 (.string S) (some (.int .i64 (t.f : Int))) (some (.int .i64 ((t.f : Int) + (kn : Int)))) none).run Try.prog w = .ok (.string (S.extract t.f (t.f + kn))) w := by
                      intro w
                      have := slice_lh S t.f (t.f + kn) (by omega) hks w
                      rw [Int.natCast_add] at this
                      exact this
                    have HO := Lib.hid (fun Y => HO2.out Y kn (by rw [HXS.out]; exact hkx) hks)
                    clear hb5
                    go_wp2_with (go_at_call 16; (with_reducible refine (HO.out _).mono ?_); rintro e w6 ⟨kd, q, b, rfl, hb7, hb6⟩; have HB6 := Lib.hid hb6; have HB7 := Lib.hid hb7; clear hb6 hb7)
                    all_goals first
                      | (exfalso; apply two_ways; assumption; apply HB7.out; assumption)
                      | go_roundw
                    all_goals first
                      | exact ⟨kn + 1, by go_num, by omega, by omega, below_up (below_up HB5.out HB6.out) ((Below.refl _ _).alloc (Nat.le_refl _) _)⟩
                      | (simp [intOf]; omega)
                  · have hksI : ¬ (t.f : Int) + (kn : Int) ≤ (S.size : Int) := by omega
                    clear hb5
                    go_wp2
                    go_roundw
                    case rel => exact ⟨jn + 1, _, by go_num, hjt, rfl, (by rw [append_data]; exact HAN.out), below_up HB3.out HB5.out⟩
                    case measure => simp [intOf]; omega
                · have h4I : ¬ (kn : Int) ≤ 4 := by omega
                  clear hb5
                  go_wp2
                  go_roundw
                  case rel => exact ⟨jn + 1, _, by go_num, hjt, rfl, (by rw [append_data]; exact HAN.out), below_up HB3.out HB5.out⟩
                  case measure => simp [intOf]; omega
            · have hjI : ¬ (jn : Int) < (T.length : Int) := by omega
              have hAS : A = S := by
                have h1 := HAA.out
                rw [List.take_of_length_le (by omega), HT.out.2, ← len_byte, List.take_length] at h1
                exact bytes_ext h1
              obtain ⟨ta, tcap, hv, d1, d2, h3⟩ := HTA.out
              subst hAS
              clear h3
              go_wp2_with (go_at_call 8; (with_reducible refine (awake_any _).mono ?_); rintro e w9 ⟨rfl, b9⟩; have B9 := Lib.hid b9; clear b9)
              go_ret
              exact ⟨rfl, below_up (below_up (below_up HB.out HB1.out) HBX.out) B9.out⟩

theorem law_long {a : Option Addr} {cap : Nat} (ks : List Int) (W : World) (hS : IntsAt a ks W) (hn : ks.length ≤ 9223372036854775807) (_ : True) : Calls Try.prog 6 #[.slice a ks.length cap] W fun e W' => e = .returned (.bool true) ∧ Below W.heap.size W W' := by
  by_cases h1 : ks.length = 0 ∨ 12 < ks.length
  · exact long_void W h1 hn
  · exact long_main ks W hS (by omega) (by omega)

theorem add_block3 (a : Addr) (i : Nat) : (a.add i).block = a.block := by unfold Addr.add; split <;> rfl

open Go.ChangeShapes Go.WideShapes in
theorem read_ints {H : Type} {enc : TypeId × Value → H} {W : World} {base : Nat} {sp : Nat → Bool} {held : Bool} {fuel : Nat} {a : Option Addr} {len cap : Nat} {x : DataW H × List MemPlace}
    (h : DataW.trod enc Try.prog W base sp held fuel 44 (Value.cells (.slice a len cap)).toList = some x) :
    ∃ ks : List Int, ks.length = len ∧ IntsAt a ks W ∧ len ≤ 9223372036854775807 ∧ True := by
  rcases open_ints Try.underlying44 Try.underlying3 (by kernel_rfl) h with ⟨hcs, -⟩ | ⟨a0, len', cap', zs, hcs, -, hl, hm, hz, -, hcell, -⟩
  · simp [Value.cells] at hcs
    obtain ⟨rfl, rfl, rfl⟩ := hcs
    exact ⟨[], rfl, fun i x hx => by simp at hx, by decide, trivial⟩
  · simp [Value.cells] at hcs
    obtain ⟨rfl, rfl, rfl⟩ := hcs
    have hlen : len ≤ zs.length := by
      rw [hz]
      split <;> omega
    unfold maxLen at hm
    refine ⟨zs.take len, by rw [List.length_take]; omega, fun i x hx => ?_, by omega, trivial⟩
    have hi : i < len := by
      rcases Nat.lt_or_ge i len with h | h
      · exact h
      · rw [List.getElem?_eq_none (by rw [List.length_take]; omega)] at hx; cases hx
    rw [List.getElem?_take_of_lt hi] at hx
    have hc := hcell i (by omega)
    have hx2 : zs.getD i 0 = x := by simp [List.getD, hx]
    rw [hx2] at hc
    have hlt := World.block_lt_of_cell? W _ hc
    rw [add_block3] at hlt
    exact ⟨_, rfl, hlt, hc⟩

end Go.Proofs.Ytpnboieppkjfnaa
