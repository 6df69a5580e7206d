/-
  Texts of the proof, put together: LGDeep, LGDeepAll.
-/
import Derived.Test.YtlnlpahmfpjjdaaDoorG56
import Derived.Test.YtlnlpahmfpjjdaaDoorG38
import Derived.Test.YtlnlpahmfpjjdaaDoorG35
import Derived.Test.YtlnlpahmfpjjdaaDoorG18

/-
  GroupsDeep, walked.
-/
namespace Go.Proofs.YtlnlpahmfpjjdaaDoor
open Go.RowKit

theorem gdepth_deep {d m n p : Nat} {v : Value} {w : World} (h : ItsAt d (twD m n 0 ++ [txI p]) v w) (hd : d ≤ 500000) (hf : (flatIts (twD m n 0 ++ [txI p])).length ≤ 500000) : Calls Tryd.prog 32 #[v] w (IntNew (n : Int) w) := by
  have := gdepth_any h (by omega) (by omega)
  rw [← mx_deep (its_fits d _ v w h), mx_all] at this
  exact this
/-- One more of the loops that write the text. -/
def Tx (pre : List UInt8) (f : Nat → List UInt8) (n : Nat) (sv i : Value) : Prop := ∃ k : Nat, i = .int .i64 (k : Int) ∧ k ≤ n ∧ TxtIs sv (pre ++ f k)
theorem tx_mk {pre : List UInt8} {f : Nat → List UInt8} {n k : Nat} {sv i : Value} (hi : i = .int .i64 (k : Int)) (hk : k ≤ n) (h : TxtIs sv (pre ++ f k)) : Tx pre f n sv i := ⟨k, hi, hk, h⟩

def DnR (w : World) (m n : Nat) (lv i : Value) : Prop := ∃ (k : Nat) (a : Option Addr) (q c d : Nat), i = .int .i64 (k : Int) ∧ k ≤ n ∧ lv = .slice a q c ∧ q ≤ c ∧ c ≤ maxLen ∧ q = (twD m (n - k) k).length ∧ ItsAt d (twD m (n - k) k) (.slice a q c) w
theorem dnR_mk {w : World} {m n k d q c : Nat} {a : Option Addr} {i : Int} (hi : i = ((k : Nat) : Int)) (hk : k ≤ n) (hc : q ≤ c) (hc2 : c ≤ maxLen) {l : List Itm} (hl : l = twD m (n - k) k) (h : ItsAt d l (.slice a q c) w) : DnR w m n (.slice a q c) (.int .i64 i) := by
  subst hi hl
  obtain ⟨a', n', c', hv, hn, -, -⟩ := itsAt_form _ _ _ _ h
  simp only [Value.slice.injEq] at hv
  obtain ⟨rfl, rfl, rfl⟩ := hv
  exact ⟨k, a, q, c, d, rfl, hk, rfl, hc, hc2, hn, h⟩

set_option maxRecDepth 100000 in
set_option maxHeartbeats 12800000 in
theorem deep_in (m n : Nat) (hm : m ≤ 10) (hn : n ≤ 60) (W : World) (hW : WordsAt 0 W) (h0 : 0 < W.heap.size) :
    Calls Tryd.prog 8 #[.int .i64 (n : Int), .int .i64 (m : Int)] W (TruePost W) := by
  have HA : Hid (∀ X : World, Below W.heap.size W X → Calls Tryd.prog 21 #[] X (TruePost X)) := Lib.hid (fun X b => awake8_any (hW.next b h0) (Nat.lt_of_lt_of_le h0 b.size))
  have HW : Hid (∀ X : World, Below W.heap.size W X → WordsAt 0 X ∧ 0 < X.heap.size) := Lib.hid (fun X b => ⟨hW.next b h0, Nat.lt_of_lt_of_le h0 b.size⟩)
  clear hW
  have g1 : ¬ (n : Int) < 0 := by omega
  have g2 : ¬ (60 : Int) < (n : Int) := by omega
  have g3 : ¬ (m : Int) < 0 := by omega
  have g4 : ¬ (10 : Int) < (m : Int) := by omega
  go_enter Tryd.func8, Tryd.ntmps8
  go_wp2
  go_loop [5, 6, 7] (fun sv i _ => Tx [] (opT m) n sv i) (fun _ i _ => n - (intOf i).toNat)
  case atStart => exact ⟨0, rfl, Nat.zero_le _, _, rfl, rfl, rfl⟩
  case round =>
    obtain ⟨i, rfl, hi, S, rfl, hS, hSs⟩ := hrel
    have HS := Lib.hid hS
    have hlen := opT_len m hm i
    have hSb : S.size ≤ 6000 := by rw [hSs, List.nil_append]; omega
    clear hS hSs hlen
    by_cases hlt : i < n
    · have hiI : (i : Int) < (n : Int) := by omega
      go_wp2
      go_loop [5, 7] (fun sv j => Tx (opT m i ++ pcIf) elT m sv j) (fun _ j => m - (intOf j).toNat)
      case atStart => exact tx_mk (k := 0) rfl (Nat.zero_le _) (txtIs_app HS.out _ (by show opT m i ++ pcIf ++ [] = _; rw [List.append_nil, List.nil_append]; rfl))
      case round =>
        obtain ⟨j, rfl, hj, S2, rfl, hS2, hS2s⟩ := hrel
        have HS2 := Lib.hid hS2
        have hS2b : S2.size ≤ 7000 := by
          rw [hS2s, List.length_append, List.length_append, elT_len]
          have := opT_len m hm i
          have e : pcIf.length = 11 := rfl
          omega
        clear hS2 hS2s
        by_cases hltj : j < m
        · have hjI : (j : Int) < (m : Int) := by omega
          go_wp2
          go_round
          case rel => exact tx_mk (k := j + 1) (by go_num) hltj (txtIs_app HS2.out _ (by rw [elT_succ, List.append_assoc, List.append_assoc, List.append_assoc]; rfl))
          case measure => simp [intOf]; omega
        · have hjI : ¬ (j : Int) < (m : Int) := by omega
          have hjm : j = m := by omega
          have HT : Hid (TxtIs (.string S2) ([] ++ opT m (i + 1))) := Lib.hid ⟨S2, rfl, by rw [HS2.out, hjm, opT_succ]; rfl, by rw [← len_byte, HS2.out, hjm, opT_succ]; rfl⟩
          clear hjm
          go_wp2
          go_round
          case rel => exact tx_mk (k := i + 1) (by go_num) hlt HT.out
          case measure => simp [intOf]; omega
    · have hiI : ¬ (i : Int) < (n : Int) := by omega
      have hin : i = n := by omega
      have HSn : Hid (TxtIs (.string S) (opT m n ++ enT 0)) := Lib.hid ⟨S, rfl, by rw [HS.out, hin]; simp [enT, endP], by rw [← len_byte, HS.out, hin]; simp [enT, endP]⟩
      clear HS hin
      go_wp2
      go_loop [5, 8] (fun sv j => Tx (opT m n) enT n sv j) (fun _ j => n - (intOf j).toNat)
      case atStart => exact tx_mk (k := 0) rfl (Nat.zero_le _) HSn.out
      case round =>
        obtain ⟨j, rfl, hj, S3, rfl, hS3, hS3s⟩ := hrel
        have HS3 := Lib.hid hS3
        have hS3b : S3.size ≤ 7000 := by
          rw [hS3s, List.length_append, enT_len]
          have := opT_len m hm n
          omega
        clear hS3 hS3s
        by_cases hltj : j < n
        · have hjI : (j : Int) < (n : Int) := by omega
          go_wp2
          go_round
          case rel => exact tx_mk (k := j + 1) (by go_num) hltj (txtIs_app HS3.out _ (by rw [enT_succ, List.append_assoc]; rfl))
          case measure => simp [intOf]; omega
        · have hjI : ¬ (j : Int) < (n : Int) := by omega
          have hd : (S3 ++ ⟨#[121, 10]⟩).data.toList = opT m n ++ enT n ++ pcY := by
            rw [append_data, HS3.out, show j = n from by omega]
            rfl
          have hsz : (S3 ++ ⟨#[121, 10]⟩ : ByteArray).size ≤ 8000 := by
            rw [ByteArray.size_append]
            have e : (⟨#[121, 10]⟩ : ByteArray).size = 2 := rfl
            omega
          have HL8 : Hid (Calls Tryd.prog 24 #[.string (S3 ++ ⟨#[121, 10]⟩)] W (LiPost W (linesA (charsL (S3 ++ ⟨#[121, 10]⟩ : ByteArray).data.toList) (S3 ++ ⟨#[121, 10]⟩ : ByteArray).size).lines)) := Lib.hid (lines8_any _ W (by omega))
          have hfew := lines_few (S3 ++ ⟨#[121, 10]⟩) hsz
          have hks := deep_lines hd
          obtain ⟨L, hL⟩ : ∃ L, (linesA (charsL (S3 ++ ⟨#[121, 10]⟩ : ByteArray).data.toList) (S3 ++ ⟨#[121, 10]⟩ : ByteArray).size).lines = L := ⟨_, rfl⟩
          rw [hL] at HL8 hfew hks
          obtain ⟨hb1, hb2⟩ := deep_built hks
          have hbf := built_few L
          rw [hb1] at hbf
          have HGB : Hid (∀ (X : World) (v : Value), LinesAt fB L v X → Below W.heap.size W X → Calls Tryd.prog 23 #[v] X (BuiltP X (twD m n 0 ++ [txI (n * (m + 2) + n)]) [])) := Lib.hid (fun X v h b => by
            have h2 := gbuild_any h (by omega) (HW.out X b).1 (HW.out X b).2
            rw [hb1, hb2] at h2
            exact h2)
          obtain ⟨p, hp⟩ : ∃ p, n * (m + 2) + n = p := ⟨_, rfl⟩
          rw [hp] at HGB hbf
          have HFI : Hid ((flatIts (twD m n 0 ++ [txI p])).length ≤ 500000) := Lib.hid (by omega)
          obtain ⟨t, ht⟩ : ∃ t, (twD m n 0).length = t := ⟨_, rfl⟩
          have ht1 : t = if n = 0 then 0 else 1 := by rw [← ht, twD_len]
          have HT := Lib.hid ht
          have h3 : (n = t ∧ (n : Int) ≤ 1 ∧ (¬ (1 : Int) < (n : Int)) ∧ min (n : Int) 1 = (n : Int) ∧ (n : Int) < (n : Int) + 1 ∧ (0 : Int) ≤ (n : Int)) ∨ (t = 1 ∧ (1 : Int) < (n : Int) ∧ (¬ (n : Int) ≤ 1) ∧ (¬ (n : Int) < 1) ∧ min (n : Int) 1 = 1 ∧ True) := by
            by_cases h : n = 0
            · rw [if_pos h] at ht1; exact .inl ⟨by omega, by omega, by omega, by omega, by omega, by omega⟩
            · rw [if_neg h] at ht1
              by_cases h1 : n = 1
              · exact .inl ⟨by omega, by omega, by omega, by omega, by omega, by omega⟩
              · exact .inr ⟨ht1, by omega, by omega, by omega, by omega, trivial⟩
          clear hd hsz hfew hks hL hb1 hb2 hbf hp ht ht1
          rcases h3 with ⟨rfl, hn3, hn4, hn5, hn6, hn7⟩ | ⟨rfl, hn3, hn4, hn5, hn6, hn7⟩
          all_goals
            go_wp2_with (first
              | (go_at_call 24; (with_reducible refine HL8.out.mono ?_); rintro e w2 ⟨la, ln, lc, rfl, hln, hl⟩; have HL2 : Hid (LinesAt fB L (.slice la ln lc) w2 ∧ Below W.heap.size W w2) := Lib.hid ⟨hl.at, hl.low⟩; clear hl hln)
              | (go_at_call 23; (with_reducible refine (HGB.out _ _ HL2.out.1 HL2.out.2).mono ?_); rintro e w3 ⟨ia, im, ic, da, dn, dc, rfl, ⟨⟨dep, hdep, hi3⟩, hdn, hd3⟩⟩; (obtain rfl : dn = 0 := hdn); have HB3 : Hid (Below W.heap.size W w3) := Lib.hid (below_up HL2.out.2 hd3.2); have HI3 := Lib.hid hi3; have HDP := Lib.hid hdep; clear hi3 hd3 hdep)
              | (go_at_call 32; (with_reducible refine (gdepth_deep HI3.out HDP.out HFI.out).mono ?_); rintro e w4 ⟨rfl, hb⟩; have HB4 : Hid (Below W.heap.size W w4) := Lib.hid (below_up HB3.out hb); have hi4 := itsAt_over _ _ _ _ _ HI3.out hb; have HI4 := Lib.hid hi4; (obtain ⟨him, hic1, hic2, gz, oz, rfl, -, cz⟩ := its_last hi4 HT.out.symm); (try simp only [Nat.reduceAdd] at him); (try simp only [Nat.one_mul] at cz); subst him; unfold maxLen at hic2; clear hi4 hb))
            go_loop [9, 12] (fun lv i => DnR w4 m n lv i) (fun _ i => n - (intOf i).toNat)
            case atStart => exact dnR_mk (k := 0) rfl (Nat.zero_le _) (by omega) (by unfold maxLen; omega) (by rw [Nat.sub_zero]) (its_front HI4.out HT.out.symm)
            case round =>
              obtain ⟨k, a, q, c, d, rfl, hk, rfl, hq1, hq2, hq, hit⟩ := hrel
              have HIT := Lib.hid hit
              clear hit
              by_cases hkn : k < n
              · have hkI : (k : Int) < (n : Int) := by omega
                obtain ⟨r, hr⟩ : ∃ r, n - k = r + 1 := ⟨n - k - 1, by omega⟩
                have h1 := HIT.out
                rw [hr] at h1
                obtain ⟨rfl, hc1, hc2, g, o, g2, o2, ac, ja, jm, jc, d', rfl, hg, c2, hac1, hac2, hg2, d1, hj1, hj2, hjt⟩ := tw_down h1
                have HJT := Lib.hid hjt
                have HR : Hid (r = n - (k + 1)) := Lib.hid (by omega)
                unfold maxLen at hc2 hac2 hj2
                clear hq hr h1 hjt
                by_cases hm0 : m = 0
                · subst hm0
                  obtain ⟨g3, o3, n', c', rfl, rfl, rfl, h5, h6, hg3, e0, htl⟩ := text_head (l := twD 0 r (k + 1)) HJT.out
                  obtain ⟨o', ho', hs1⟩ := slice1_its g3 o3 n' c' h5 h6
                  have HTL := Lib.hid (htl o' ho')
                  have hn1 : ¬ (n' : Int) + 1 < 1 := by omega
                  simp only [Nat.zero_add, Nat.zero_mul, Nat.add_zero] at c2 d1 hac1
                  have H6 : Hid (n' ≤ c' ∧ c' ≤ maxLen) := Lib.hid ⟨h5, by omega⟩
                  unfold maxLen at h6
                  clear htl ho'
                  go_wp2
                  go_round
                  case rel => exact dnR_mk (k := k + 1) (by go_num) hkn H6.out.1 H6.out.2 (by rw [HR.out]) HTL.out
                  case measure => simp [intOf]; omega
                · obtain ⟨m', rfl⟩ : ∃ m', m = m' + 1 := ⟨m - 1, by omega⟩
                  have hm1 : ((m' : Int) + 1 == 0) = false := by simp; omega
                  have hm2 : ¬ (m' : Int) + 1 = 0 := by omega
                  have HTL : Hid (ItsAt d' (twD (m' + 1) r (k + 1)) (.slice ja jm jc) w4) := HJT
                  have H6 : Hid (jm ≤ jc ∧ jc ≤ maxLen) := Lib.hid ⟨hj1, by unfold maxLen; omega⟩
                  go_wp2
                  go_round
                  case rel => exact dnR_mk (k := k + 1) (by go_num) hkn H6.out.1 H6.out.2 (by rw [HR.out]) HTL.out
                  case measure => simp [intOf]; omega
              · have hkI : ¬ (k : Int) < (n : Int) := by omega
                obtain rfl : q = 0 := by rw [hq, show n - k = 0 from by omega]; rfl
                clear hq
                go_wp2_with (go_at_call 21; (with_reducible refine (HA.out _ HB4.out).mono ?_); rintro e w5 ⟨rfl, hb⟩; have HB5 : Hid (Below W.heap.size W w5) := Lib.hid (below_up HB4.out hb); clear hb)
                go_ret
                exact ⟨rfl, HB5.out⟩

end Go.Proofs.YtlnlpahmfpjjdaaDoor

/-
  GroupsDeep, for any two numbers.
-/
namespace Go.Proofs.YtlnlpahmfpjjdaaDoor
open Go.RowKit

set_option maxRecDepth 100000 in
set_option maxHeartbeats 3200000 in
theorem deep_law (a b : Int) (W : World) (hW : WordsAt 0 W) (h0 : 0 < W.heap.size) :
    Calls Tryd.prog 8 #[.int .i64 a, .int .i64 b] W (TruePost W) := by
  have HA : Hid (∀ X : World, Below W.heap.size W X → Calls Tryd.prog 21 #[] X (TruePost X)) := Lib.hid (fun X b => awake8_any (hW.next b h0) (Nat.lt_of_lt_of_le h0 b.size))
  by_cases hin : 0 ≤ a ∧ a ≤ 60 ∧ 0 ≤ b ∧ b ≤ 10
  · obtain ⟨h1, h2, h3, h4⟩ := hin
    obtain ⟨n, rfl⟩ : ∃ n : Nat, a = (n : Int) := ⟨a.toNat, by omega⟩
    obtain ⟨m, rfl⟩ : ∃ m : Nat, b = (m : Int) := ⟨b.toNat, by omega⟩
    exact deep_in m n (by omega) (by omega) W hW h0
  · clear hW
    have hcs : a < 0 ∨ ((¬ a < 0) ∧ 60 < a) ∨ ((¬ a < 0) ∧ (¬ 60 < a) ∧ b < 0) ∨ ((¬ a < 0) ∧ (¬ 60 < a) ∧ (¬ b < 0) ∧ 10 < b) := by omega
    clear hin
    rcases hcs with h1 | ⟨h1, h2⟩ | ⟨h1, h2, h3⟩ | ⟨h1, h2, h3, h4⟩
    all_goals
      go_enter Tryd.func8, Tryd.ntmps8
      go_wp2_with (go_at_call 21; (with_reducible refine (HA.out _ (Below.refl _ _)).mono ?_); rintro e w1 ⟨rfl, hb⟩; have HB1 := Lib.hid hb; clear hb)
      go_ret
      exact ⟨rfl, HB1.out⟩

end Go.Proofs.YtlnlpahmfpjjdaaDoor
