/-
  Texts of the proof, put together: LANes.
-/
import Derived.Test.YtipipookgcdfbaaG51

/-
  ArgsNested, walked.
-/
namespace Go.Proofs.Ytipipookgcdfbaa
open Go.RowKit

set_option maxRecDepth 100000 in
set_option maxHeartbeats 6400000 in
theorem nested_out {a : Option Addr} {n cap : Nat} (shut : Bool) (W : World) (h : n = 0 ∨ 12 < n) (hn : n ≤ 9223372036854775807) : Calls Try.prog 7 #[.slice a n cap, .bool shut] W (TruePost W) := by
  have HA : Hid (∀ X : World, Calls Try.prog 10 #[] X (TruePost X)) := Lib.hid (fun X => awake10_any X)
  rcases h with rfl | h
  · go_enter Try.func7, Try.ntmps7
    go_wp2_with (go_at_call 10; (with_reducible refine (HA.out _).mono ?_); rintro e w9 ⟨rfl, hb⟩; have HB9 := Lib.hid hb; clear hb)
    go_ret
    exact ⟨rfl, HB9.out⟩
  · have h0 : ((n : Int) == 0) = false := by rw [beq_eq_false_iff_ne]; omega
    have h1 : (12 : Int) < (n : Int) := by omega
    go_enter Try.func7, Try.ntmps7
    go_wp2_with (go_at_call 10; (with_reducible refine (HA.out _).mono ?_); rintro e w9 ⟨rfl, hb⟩; have HB9 := Lib.hid hb; clear hb)
    go_ret
    exact ⟨rfl, HB9.out⟩

set_option maxRecDepth 100000 in
set_option maxHeartbeats 12800000 in
theorem nested_in {a : Option Addr} {n cap : Nat} (ks : List Int) (shut : Bool) (W : World) (hS : IntsAt a ks W) (hn : n = ks.length) (hn1 : 1 ≤ n) (hn2 : n ≤ 12) : Calls Try.prog 7 #[.slice a n cap, .bool shut] W (TruePost W) := by
  have HA : Hid (∀ X : World, Calls Try.prog 10 #[] X (TruePost X)) := Lib.hid (fun X => awake10_any X)
  have HS := Lib.hid hS
  have HN := Lib.hid hn
  have h0 : ((n : Int) == 0) = false := by rw [beq_eq_false_iff_ne]; omega
  have h1 : ¬ (12 : Int) < (n : Int) := by omega
  obtain ⟨ds, hds⟩ : ∃ ds, ks.map rd6 = ds := ⟨_, rfl⟩
  have HDL : Hid (ds.length = n) := Lib.hid (by rw [← hds, hn, List.length_map])
  have HD6 : Hid (∀ d ∈ ds, d < 6) := Lib.hid (fun d hd => by
    rw [← hds] at hd
    obtain ⟨x, -, rfl⟩ := List.mem_map.1 hd
    exact rd6_lt x)
  have HDK : Hid (∀ i x, ks[i]? = some x → ds[i]? = some (rd6 x)) := Lib.hid (fun i x hx => by rw [← hds, List.getElem?_map, hx]; rfl)
  have HTL : Hid (∀ i, (rowB (ds.take i)).length ≤ 300) := Lib.hid (fun i => by
    have := rowB_len (ds.take i) fun d hd => HD6.out d (List.mem_of_mem_take hd)
    rw [List.length_take, HDL.out] at this
    omega)
  clear hS hn hds
  go_enter Try.func7, Try.ntmps7
  go_wp2
  go_loop [5, 6] (fun sv i => NesO ds n sv i) (fun _ i => n - (intOf i).toNat)
  case atStart => exact ⟨0, rfl, Nat.zero_le _, ⟨#[40]⟩, rfl, rfl, rfl⟩
  case round =>
    obtain ⟨i, rfl, hi, S, rfl, hS, hSs⟩ := hrel
    have hSb : S.size ≤ 400 := by rw [hSs, List.length_cons]; have := HTL.out i; omega
    have HSX := Lib.hid hS
    clear hS hSs
    by_cases hlt : i < n
    · obtain ⟨x, hx⟩ : ∃ x, ks[i]? = some x := ⟨_, List.getElem?_eq_getElem (by rw [← HN.out]; exact hlt)⟩
      obtain ⟨ad, rfl, hadl, hac⟩ := HS.out i x hx
      have HRD : Hid (∀ X : World, Calls Try.prog 26 #[.int .i64 x, .int .i64 6] X fun e w' => e = .returned (.int .i64 (rd6 x : Int)) ∧ X = w') := Lib.hid (fun X => round6_any x X)
      have HDX := Lib.hid (HDK.out i x hx)
      have hd6 := rd6_lt x
      obtain ⟨d, hd⟩ : ∃ d, rd6 x = d := ⟨_, rfl⟩
      rw [hd] at HRD HDX hd6
      have hiI : (i : Int) < (n : Int) := by omega
      have hi0 : (0 : Int) ≤ (i : Int) := by omega
      have HPN : Hid (rowB (ds.take (i + 1)) = preN ds i ++ argB d) := Lib.hid (preN_row HDX.out)
      have HPL : Hid ((preN ds i).length ≤ 301) := Lib.hid (by
        unfold preN
        split
        · simp
        · rw [List.length_append]; have := HTL.out i; simp; omega)
      have HX : Hid ((i = 0 ∧ S.data.toList = 40 :: preN ds i) ∨ (0 < i ∧ S.data.toList ++ [44] = 40 :: preN ds i)) := Lib.hid (by
        by_cases h : i = 0
        · subst h
          exact .inl ⟨rfl, by rw [HSX.out]; rfl⟩
        · exact .inr ⟨by omega, by rw [HSX.out]; unfold preN; rw [if_neg h]; rfl⟩)
      have HHI : Hid (i + 1 ≤ n) := Lib.hid hlt
      clear hx hd HSX
      rcases HX.out with ⟨he, hs⟩ | ⟨he, hs⟩
      all_goals
        have HX1 := Lib.hid hs
        clear hs HX
        have hic : (¬ (0 : Int) < (i : Int)) ∨ True := .inr trivial
        first
          | (have hiz : (0 : Int) < (i : Int) := by omega)
          | (have hiz : ¬ (0 : Int) < (i : Int) := by omega)
        clear hic he
        go_wp2_with (go_at_call 26; ((with_reducible refine (HRD.out _).mono ?_); rintro e w' ⟨rfl, rfl⟩))
        go_loop [5, 8] (fun sv j => NesI (40 :: preN ds i) opB d sv j) (fun _ j => d - (intOf j).toNat)
        case atStart => exact nesI_mk (j := 0) rfl (Nat.zero_le _) (by first | exact txN_of (by rw [HX1.out]; simp [opB]) | exact txN_mk rfl (by rw [show (⟨#[44]⟩ : ByteArray).data.toList = [44] from rfl, HX1.out]; simp [opB]))
        case round =>
          obtain ⟨j, rfl, hj, S2, rfl, hS2, hS2s⟩ := hrel
          have HS2 := Lib.hid hS2
          have hS2b : S2.size ≤ 400 := by rw [hS2s, List.length_append, List.length_cons, opB_len]; have := HPL.out; omega
          clear hS2 hS2s
          by_cases hltj : j < d
          · have hjI : (j : Int) < (d : Int) := by omega
            have hj6 : j < 6 := by omega
            go_wp2
            go_round
            case rel => exact nesI_mk (j := j + 1) (by go_num) hltj (txN_mk HS2.out (by rw [opB_snoc, ← List.append_assoc]))
            case measure => simp [intOf]; omega
          · have hjI : ¬ (j : Int) < (d : Int) := by omega
            obtain rfl : j = d := by omega
            go_wp2
            go_loop [5, 9] (fun sv k => NesI ((40 :: preN ds i) ++ opB j ++ [120]) clB j sv k) (fun _ k => j - (intOf k).toNat)
            case atStart => exact nesI_mk (j := 0) rfl (Nat.zero_le _) (txN_mk HS2.out (by simp [clB]))
            case round =>
              obtain ⟨k, rfl, hk, S3, rfl, hS3, hS3s⟩ := hrel
              have HS3 := Lib.hid hS3
              have hS3b : S3.size ≤ 400 := by rw [hS3s, List.length_append, List.length_append, List.length_append, List.length_cons, opB_len, clB_len]; have := HPL.out; simp; omega
              clear hS3 hS3s
              by_cases hltk : k < j
              · have hkI : (k : Int) < (j : Int) := by omega
                have hk6 : k < 6 := by omega
                go_wp2
                go_round
                case rel => exact nesI_mk (j := k + 1) (by go_num) hltk (txN_mk HS3.out (by rw [clB_snoc, ← List.append_assoc]))
                case measure => simp [intOf]; omega
              · have hkI : ¬ (k : Int) < (j : Int) := by omega
                obtain rfl : k = j := by omega
                go_wp2
                go_round
                case rel => exact nesO_mk (i := i + 1) (by go_num) HHI.out (txN_of (by rw [HS3.out, HPN.out]; simp [argB]))
                case measure => simp [intOf]; omega
    · have hiI : ¬ (i : Int) < (n : Int) := by omega
      obtain rfl : i = n := by omega
      have HSD : Hid (S.data.toList = 40 :: rowB ds) := Lib.hid (by rw [HSX.out, List.take_of_length_le (by rw [HDL.out]; omega)])
      have hdne : ds ≠ [] := by intro e; have := HDL.out; rw [e] at this; simp at this; omega
      cases shut with
      | false =>
        have hdat : (S ++ ⟨#[32, 121]⟩ : ByteArray).data.toList = nesL ds false ++ [32, 121] := by rw [append_data, HSD.out]; simp [nesL]
        have hT := nes_toks hdne false hdat
        have hC := nes_open hdne hT
        obtain ⟨f1, f2, -⟩ := lexT_fit hdat ((nes_br ds false).app (Br.cons (by simp) (Br.cons (by simp) br_nil))).plb ((nes_br ds false).app (Br.cons (by simp) (Br.cons (by simp) br_nil))).non
        have hz : (S ++ ⟨#[32, 121]⟩ : ByteArray).size ≤ 500 := by rw [ByteArray.size_append]; have e : (⟨#[32, 121]⟩ : ByteArray).size = 2 := rfl; omega
        have hl1 : (nesL ds false ++ [32, 121]).length ≤ 500 := by rw [← hdat, bytes_len]; exact hz
        have HT : Hid (∀ X : World, Calls Try.prog 27 #[.string (S ++ ⟨#[32, 121]⟩)] X (ToksNew X (lexT (S ++ ⟨#[32, 121]⟩)))) := Lib.hid (fun X => lexed9_any _ X (by omega))
        obtain ⟨T, hTT⟩ : ∃ T, lexT (S ++ ⟨#[32, 121]⟩) = T := ⟨_, rfl⟩
        rw [hTT] at HT hC f1 f2
        have HC : Hid (∀ (X : World) (v : Value), ToksX T v X → Calls Try.prog 11 #[v] X (ColPost X none)) := Lib.hid (fun X v h => by
          have := pcol_any h (by omega) (fun t ht => by rw [f2 t ht]; simp)
          rw [hC] at this
          exact this)
        clear hdat hT hC f1 f2 hz hl1 hTT hdne
        go_wp2_with (first
          | (go_at_call 27; (with_reducible refine (HT.out _).mono ?_); rintro e w1 ⟨ta, tn, tc, rfl, -, hx, hb⟩; have HX1 := Lib.hid hx; have HB1 := Lib.hid hb; clear hx hb)
          | (go_at_call 11; (with_reducible refine (HC.out _ _ HX1.out).mono ?_); rintro e w2 ⟨rfl, hb⟩; have HB2 := Lib.hid (below_up HB1.out hb); clear hb)
          | (go_at_call 10; (with_reducible refine (HA.out _).mono ?_); rintro e w9 ⟨rfl, hb⟩; have HB9 := Lib.hid (below_up HB2.out hb); clear hb))
        go_ret
        exact ⟨rfl, HB9.out⟩
      | true =>
        have hd1 : (S ++ ⟨#[41]⟩ : ByteArray).data.toList = nesL ds true := by rw [append_data, HSD.out]; simp [nesL]
        have hz1 : (S ++ ⟨#[41]⟩ : ByteArray).size ≤ 450 := by rw [ByteArray.size_append]; have e : (⟨#[41]⟩ : ByteArray).size = 1 := rfl; omega
        have hmany := nes_many hdne hd1
        obtain ⟨S1, hS1⟩ : ∃ S1 : ByteArray, S ++ ⟨#[41]⟩ = S1 := ⟨_, rfl⟩
        rw [hS1] at hd1 hz1 hmany
        have HS1 := Lib.hid hS1
        have hdat : (S1 ++ ⟨#[32, 121]⟩ : ByteArray).data.toList = nesL ds true ++ [32, 121] := by rw [append_data, hd1]
        have hT := nes_toks hdne true hdat
        obtain ⟨A, C, hC, hAl, hCl, hAm⟩ := nes_shut hdne hT
        obtain ⟨f1, f2, -⟩ := lexT_fit hdat ((nes_br ds true).app (Br.cons (by simp) (Br.cons (by simp) br_nil))).plb ((nes_br ds true).app (Br.cons (by simp) (Br.cons (by simp) br_nil))).non
        have hz : (S1 ++ ⟨#[32, 121]⟩ : ByteArray).size ≤ 500 := by rw [ByteArray.size_append]; have e : (⟨#[32, 121]⟩ : ByteArray).size = 2 := rfl; omega
        have hl1 : (nesL ds true ++ [32, 121]).length ≤ 500 := by rw [← hdat, bytes_len]; exact hz
        have hR : (rowB ds).length ≤ 500 := by simp [nesL] at hl1; omega
        obtain ⟨R, hRR⟩ : ∃ R, (rowB ds).length = R := ⟨_, rfl⟩
        obtain ⟨M, hM⟩ : ∃ M, C.length = M := ⟨_, rfl⟩
        rw [hRR] at hC hmany hR
        rw [hM, HDL.out] at hCl
        rw [HDL.out] at hAl
        have HT : Hid (∀ X : World, Calls Try.prog 27 #[.string (S1 ++ ⟨#[32, 121]⟩)] X (ToksNew X (lexT (S1 ++ ⟨#[32, 121]⟩)))) := Lib.hid (fun X => lexed9_any _ X (by omega))
        have HT2 : Hid (∀ X : World, Calls Try.prog 27 #[.string S1] X (ToksNew X (lexT S1))) := Lib.hid (fun X => lexed9_any _ X (by omega))
        obtain ⟨T, hTT⟩ : ∃ T, lexT (S1 ++ ⟨#[32, 121]⟩) = T := ⟨_, rfl⟩
        rw [hTT] at HT hC f1 f2
        have HC : Hid (∀ (X : World) (v : Value), ToksX T v X → Calls Try.prog 11 #[v] X (ColPost X (some (A, C, R + 2)))) := Lib.hid (fun X v h => by
          have := pcol_any h (by omega) (fun t ht => by rw [f2 t ht]; simp)
          rw [hC] at this
          exact this)
        have HAL := Lib.hid hAl
        have HCM := Lib.hid hM
        have HMY := Lib.hid hmany
        have HUL : Hid (∀ (i : Nat) (U : List Xt) (d : Nat), A[i]? = some U → ds[i]? = some d → U.length = 1 + 4 * d) := Lib.hid (fun i U d hU hd => by
          have h1 : (A.map List.length)[i]? = some U.length := by rw [List.getElem?_map, hU]; rfl
          rw [hAm, List.getElem?_map, hd] at h1
          simpa using h1.symm)
        have hnn : ((i : Int) != (i : Int)) = false := by simp
        have hnm : ((M : Int) != (i : Int) - 1) = false := by simp; omega
        have hnr : ((R : Int) + 2 != (R : Int) + 2) = false := by simp
        have hwn : IntKind.i64.wrap ((i : Int) - 1) = (i : Int) - 1 := IntWalk.i64_in _ (by omega)
        clear hd1 hmany hdat hT hC hAl hCl hAm f1 f2 hl1 hRR hM hTT hdne HSD HTL
        go_wp2_with (first
          | (go_at_call 27; (with_reducible refine (HT.out _).mono ?_); rintro e w1 ⟨ta, tn, tc, rfl, -, hx, hb⟩; have HX1 := Lib.hid hx; have HB1 := Lib.hid hb; clear hx hb)
          | (go_at_call 11; (with_reducible refine (HC.out _ _ HX1.out).mono ?_); rintro e w2 ⟨al, nl, cl, ac, nc, cc, rfl, hnl, hnc, hr, -, hb⟩; (obtain rfl : nl = i := hnl.trans HAL.out); (obtain rfl : nc = M := hnc.trans HCM.out); have HR := Lib.hid hr; have HB2 := Lib.hid (below_up HB1.out hb); clear hb hr hnl hnc)
          | (go_at_call 27; (with_reducible refine (HT2.out _).mono ?_); rintro e w3 ⟨tb, tm, td, rfl, htm, -, hb⟩; (obtain rfl : tm = R + 2 := htm.trans HMY.out); have HR := Lib.hid (HR.out.over hb); have HB3 := Lib.hid (below_up HB2.out hb); clear hb htm))
        obtain ⟨-, hcl1, hcl2, -⟩ := HR.out.len
        unfold maxLen at hcl2
        go_loopw [14] (fun iv wx => ∃ j : Nat, iv = .int .i64 (j : Int) ∧ j ≤ nl ∧ Below w3.heap.size w3 wx) (fun iv _ => nl - (intOf iv).toNat)
        case atStart => exact ⟨0, rfl, Nat.zero_le _, Below.refl _ _⟩
        case round =>
          obtain ⟨j, rfl, hj, hb⟩ := hrel
          by_cases hlj : j < nl
          · obtain ⟨U, hU⟩ : ∃ U, A[j]? = some U := ⟨_, List.getElem?_eq_getElem (by rw [HAL.out]; exact hlj)⟩
            obtain ⟨x, hx⟩ : ∃ x, ks[j]? = some x := ⟨_, List.getElem?_eq_getElem (by rw [← HN.out]; exact hlj)⟩
            obtain ⟨g, o, b1, m1, c1, rfl, hg, e0, -, hx1⟩ := HR.out.get hU
            have e0 := bcell hb e0 hg
            obtain ⟨ad, rfl, hadl, hac⟩ := HS.out j x hx
            have hac2 : wr.cell? (ad.add j) = some (.int .i64 x) := ((below_up HB3.out hb).cell (by rw [add_block2]; exact hadl)).trans hac
            have HRD : Hid (∀ X : World, Calls Try.prog 26 #[.int .i64 x, .int .i64 6] X fun e w' => e = .returned (.int .i64 (rd6 x : Int)) ∧ X = w') := Lib.hid (fun X => round6_any x X)
            have hd6 := rd6_lt x
            have hm1 : m1 = 1 + 4 * rd6 x := hx1.len.1.trans (HUL.out j U _ hU (HDK.out j x hx))
            obtain ⟨d, hd⟩ : ∃ d, rd6 x = d := ⟨_, rfl⟩
            rw [hd] at HRD hd6 hm1
            subst hm1
            have hjI : (j : Int) < (nl : Int) := by omega
            have hj0 : (0 : Int) ≤ (j : Int) := by omega
            have hw1 : IntKind.i64.wrap (4 * (d : Int)) = 4 * (d : Int) := IntWalk.i64_in _ (by omega)
            have hw2 : IntKind.i64.wrap (1 + 4 * (d : Int)) = 1 + 4 * (d : Int) := IntWalk.i64_in _ (by omega)
            have hdd : ((1 : Int) + 4 * (d : Int) != 1 + 4 * (d : Int)) = false := by simp
            have HB := Lib.hid hb
            clear hb hU hx hx1 hac hd
            go_wp2
            have HB4 : Hid (Below w3.heap.size w3 wr.drew) := Lib.hid HB.out.drew
            go_region_held3 (fun w' => w'.cell? ⟨g, o + j, none⟩ = some (.slice b1 (1 + 4 * d) c1) ∧ w'.cell? (ad.add j) = some (.int .i64 x))
              (first | exact ⟨e0, hac2⟩ | go_keep)
              (first | (go_at_call 26; (with_reducible refine (HRD.out _).mono ?_); rintro e w' ⟨rfl, rfl⟩))
            go_wp2
            go_roundw
            case rel => exact ⟨j + 1, by go_num, hlj, HB4.out⟩
            case measure => simp [intOf]; omega
          · have hjI : ¬ (j : Int) < (nl : Int) := by omega
            have HB4 := Lib.hid (below_up HB3.out hb)
            clear hb
            go_wp2_with (go_at_call 10; (with_reducible refine (HA.out _).mono ?_); rintro e w9 ⟨rfl, hb⟩; have HB9 := Lib.hid (below_up HB4.out hb); clear hb)
            go_ret
            exact ⟨rfl, HB9.out⟩

theorem nested_law {a : Option Addr} {cap : Nat} (ks : List Int) (shut : Bool) (W : World) (hS : IntsAt a ks W) (hn : ks.length ≤ 9223372036854775807) (_ : True) : Calls Try.prog 7 #[.slice a ks.length cap, .bool shut] W (TruePost W) := by
  by_cases h : ks.length = 0 ∨ 12 < ks.length
  · exact nested_out shut W h hn
  · exact nested_in ks shut W hS rfl (by omega) (by omega)

end Go.Proofs.Ytipipookgcdfbaa
