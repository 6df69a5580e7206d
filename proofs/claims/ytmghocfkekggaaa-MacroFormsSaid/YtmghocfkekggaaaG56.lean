/-
  Texts of the proof, put together: LMForms.
-/
import Derived.Test.YtmghocfkekggaaaG55
import Derived.Test.YtmghocfkekggaaaG27
import Derived.Deep.RegionHeld3

/-
  MacroForms, walked.
-/
namespace Go.Proofs.Ytmghocfkekggaaa
open Go.RowKit Go.Maps

theorem word_wd {s : ByteArray} (h : wordB s = true) : Wd s.data.toList ∧ s.size ≤ 20 ∧ s.data.toList ≠ [100, 101, 102, 105, 110, 101, 100] := by
  unfold wordB at h
  rw [ByteArray.toList_eq] at h
  simp only [Bool.and_eq_true, decide_eq_true_eq, List.all_eq_true, Bool.not_eq_true', beq_eq_false_iff_ne] at h
  obtain ⟨h1, ⟨h2, h3⟩, h4⟩ := h
  refine ⟨⟨h2, fun c hc => ?_⟩, h3, h4⟩
  have := h1 c hc
  unfold lowB at this
  simpa using this
/-- The row so far. -/
def RowSo (U : List ByteArray) (k : Nat) (z : ByteArray) : Prop :=
  z.data.toList = joinB ((U.take k).map fun s => s.data.toList) ∧ (∀ s ∈ U.take k, wordB s = true) ∧ (U.take k).Nodup ∧ z.size ≤ 22 * k
theorem rowSo_more {U : List ByteArray} {k : Nat} {z u : ByteArray} (h : RowSo U k z) (hu : U[k]? = some u) (hw : wordB u = true) (hd : ∀ i v, i < k → U[i]? = some v → v ≠ u) :
    RowSo U (k + 1) (if 0 < k then z ++ ⟨#[44, 32]⟩ ++ u else z ++ u) := by
  obtain ⟨h1, h2, h3, h4⟩ := h
  have hts : U.take (k + 1) = U.take k ++ [u] := by rw [List.take_add_one, hu]; rfl
  have hul := (word_wd hw).2.1
  have hkl := (List.getElem?_eq_some_iff.1 hu).1
  have hsz : u.data.toList.length = u.size := Array.length_toList
  have hzz : z.data.toList.length = z.size := Array.length_toList
  unfold RowSo
  rw [hts]
  refine ⟨?_, fun s hs => ?_, ?_, ?_⟩
  · by_cases h0 : 0 < k
    · rw [if_pos h0, List.map_append, List.map_cons, List.map_nil, joinB_snoc _ _ (by
        intro e
        have := congrArg List.length e
        simp only [List.length_map, List.length_take, List.length_nil] at this
        omega), ← h1]
      simp
    · obtain rfl : k = 0 := by omega
      rw [if_neg (by omega)]
      have hz0 : z.data.toList = [] := h1
      simp [joinB, hz0]
  · rcases List.mem_append.1 hs with h | h
    · exact h2 s h
    · have : s = u := by simpa using h
      rw [this]
      exact hw
  · refine List.nodup_append.2 ⟨h3, by simp, fun a ha b hb e => ?_⟩
    have hbu : b = u := by simpa using hb
    obtain ⟨i, hi, rfl⟩ := List.getElem_of_mem ha
    rw [List.length_take] at hi
    rw [List.getElem_take] at e
    exact hd i _ (by omega) (List.getElem?_eq_getElem (by omega)) (e.trans hbu)
  · by_cases h0 : 0 < k
    · rw [if_pos h0]
      have e : (z ++ ⟨#[44, 32]⟩ ++ u).data.toList.length = z.size + (u.size + 1 + 1) := by simp [hsz, hzz]
      have e2 : (z ++ ⟨#[44, 32]⟩ ++ u).size = (z ++ ⟨#[44, 32]⟩ ++ u).data.toList.length := Array.length_toList.symm
      omega
    · rw [if_neg h0]
      have e : (z ++ u).data.toList.length = z.size + u.size := by simp [hsz, hzz]
      have e2 : (z ++ u).size = (z ++ u).data.toList.length := Array.length_toList.symm
      omega

set_option maxRecDepth 100000 in
set_option maxHeartbeats 6400000 in
theorem law_forms (name body : ByteArray) (W : World) {v1 : Value} {U : List ByteArray} (wn : name.size ≤ maxLen) (h1 : StrsV U v1 W) (hu : ∀ s ∈ U, s.size ≤ maxLen) (wb : body.size ≤ maxLen) :
    Calls Try.prog 4 #[.string name, v1, .string body] W (TruePost W) := by
  obtain ⟨a1, n1, c1, rfl⟩ := h1.form
  obtain ⟨hn1, hc1, hm1⟩ := h1.len
  unfold maxLen at hm1 wn wb
  have HN1 := Lib.hid hn1
  have H1 := Lib.hid h1
  have HAW : Hid (∀ X : World, Calls Try.prog 8 #[] X (TruePost X)) := Lib.hid (fun X => awake9_any X)
  obtain ⟨b0, hb0⟩ : ∃ b0, wordB name = b0 := ⟨_, rfl⟩
  have HW0 : Hid (Calls Try.prog 18 #[.string name] W (BoolPost b0 W)) := Lib.hid (hb0 ▸ word9_any name W (by omega))
  have HB0 := Lib.hid hb0
  have HWU : Hid (∀ (X : World) (u : ByteArray), u ∈ U → Calls Try.prog 18 #[.string u] X (BoolPost (wordB u) X)) := Lib.hid (fun X u hx => word9_any u X (by have := hu u hx; unfold maxLen at this; omega))
  clear h1 hu hn1 hb0
  cases b0 with
  | false =>
    go_enter Try.func4, Try.ntmps4
    go_wp2_with (first
      | (go_at_call 18; (with_reducible refine HW0.out.mono ?_); rintro e w1 ⟨rfl, rfl⟩)
      | (go_at_call 8; (with_reducible refine (HAW.out _).mono ?_); rintro e w2 ⟨rfl, hb⟩; have HB := Lib.hid hb; clear hb))
    go_ret
    exact ⟨rfl, HB.out⟩
  | true =>
    by_cases hn8 : n1 ≤ 8
    · by_cases hb2 : body.size ≤ 200
      · have hn8I : ¬ (8 : Int) < (n1 : Int) := by omega
        have hb2I : ¬ (200 : Int) < (body.size : Int) := by omega
        go_enter Try.func4, Try.ntmps4
        go_wp2_with (first
          | (go_at_call 18; (with_reducible refine HW0.out.mono ?_); rintro e w1 ⟨rfl, rfl⟩))
        go_loopw [7, 8] (fun s i wr => ∃ (k : Nat) (z : ByteArray), i = .int .i64 (k : Int) ∧ s = .string z ∧ k ≤ n1 ∧ RowSo U k z ∧ Below W.heap.size W wr) (fun _ i _ => n1 - (intOf i).toNat)
        case atStart => exact ⟨0, _, rfl, rfl, Nat.zero_le _, ⟨rfl, fun s hs => by simp at hs, by simp, Nat.le_refl _⟩, Below.refl _ _⟩
        case round =>
          obtain ⟨k, z, rfl, rfl, hk, hrow, hbw⟩ := hrel
          have HROW := Lib.hid hrow
          have HBW := Lib.hid hbw
          have hz22 := hrow.2.2.2
          clear hrow
          by_cases hlt : k < n1
          · obtain ⟨u, hu⟩ : ∃ u, U[k]? = some u := ⟨_, List.getElem?_eq_getElem (by rw [← HN1.out]; exact hlt)⟩
            obtain ⟨g, o, rfl, hg, hcu⟩ := H1.out.get hu
            have hkI : (k : Int) < (n1 : Int) := by omega
            have hk0 : (0 : Int) ≤ (k : Int) := by omega
            have hcw := bcell hbw hcu hg
            obtain ⟨bu, hbu⟩ : ∃ bu, wordB u = bu := ⟨_, rfl⟩
            have HWu : Hid (Calls Try.prog 18 #[.string u] wr (BoolPost bu wr)) := Lib.hid (hbu ▸ HWU.out wr u (List.mem_of_getElem? hu))
            have HBU := Lib.hid hbu
            have HU := Lib.hid hu
            have HCU := Lib.hid hcu
            clear hu hbu hcu
            cases bu with
            | false =>
              go_wp2_with (first
                | (go_at_call 18; (with_reducible refine HWu.out.mono ?_); rintro e w1 ⟨rfl, rfl⟩)
                | (go_at_call 8; (with_reducible refine (HAW.out _).mono ?_); rintro e w2 ⟨rfl, hb⟩; have HB := Lib.hid (below_up HBW.out hb); clear hb))
              go_ret
              exact ⟨rfl, HB.out⟩
            | true =>
              obtain ⟨wo, hwo⟩ : ∃ wo, wr = wo := ⟨_, rfl⟩
              rw [hwo] at HWu HBW hcw ⊢
              clear hwo hbw
              go_wp2_with (first
                | (go_at_call 18; (with_reducible refine HWu.out.mono ?_); rintro e w1 ⟨rfl, rfl⟩))
              go_loopw [9] (fun i wi => ∃ j : Nat, i = .int .i64 (j : Int) ∧ j ≤ k ∧ (∀ i v, i < j → U[i]? = some v → v ≠ u) ∧ Below wo.heap.size wo wi) (fun i _ => k - (intOf i).toNat)
              case atStart => exact ⟨0, rfl, Nat.zero_le _, fun i v hi => by omega, Below.refl _ _⟩
              case round =>
                obtain ⟨j, rfl, hj, hall, hbi⟩ := hrel
                have HALL := Lib.hid hall
                have HBI := Lib.hid hbi
                clear hall
                by_cases hjl : j < k
                · obtain ⟨v, hv⟩ : ∃ v, U[j]? = some v := ⟨_, List.getElem?_eq_getElem (by rw [← HN1.out]; omega)⟩
                  obtain ⟨g', o', hgo, -, hcv⟩ := H1.out.get hv
                  simp only [Option.some.injEq, Addr.mk.injEq, and_true] at hgo
                  obtain ⟨rfl, rfl⟩ := hgo
                  have hbb := below_up HBW.out HBI.out
                  have hcv := bcell hbb hcv hg
                  have hcw := bcell hbb HCU.out hg
                  have hjI : (j : Int) < (k : Int) := by omega
                  have hj0 : (0 : Int) ≤ (j : Int) := by omega
                  have hjn : (j : Int) < (n1 : Int) := by omega
                  have HV := Lib.hid hv
                  obtain ⟨be, hbe⟩ : ∃ be, (v.toList == u.toList) = be := ⟨_, rfl⟩
                  have HBE := Lib.hid hbe
                  clear hv hbi hbb
                  cases be with
                  | true =>
                    go_wp2
                    go_region
                    go_wp2_with (go_at_call 8; (with_reducible refine (HAW.out _).mono ?_); rintro e w2 ⟨rfl, hb⟩; have HB := Lib.hid (below_up (below_up (below_up HBW.out HBI.out) (Below.refl _ _).drew) hb); clear hb)
                    go_ret
                    exact ⟨rfl, HB.out⟩
                  | false =>
                    have HNE : Hid (∀ i w, i < j + 1 → U[i]? = some w → w ≠ u) := Lib.hid (fun i w hi hw => by
                      rcases Nat.lt_or_ge i j with h | h
                      · exact HALL.out i w h hw
                      · obtain rfl : i = j := by omega
                        rw [HV.out] at hw
                        cases hw
                        rintro rfl
                        have := HBE.out
                        simp at this)
                    go_wp2
                    go_region
                    go_wp2
                    go_roundw
                    case rel => exact ⟨j + 1, by go_num, hjl, HNE.out, below_up HBI.out (Below.refl _ _).drew⟩
                    case measure => simp [intOf]; omega
                · obtain rfl : j = k := by omega
                  have hjI : ¬ (j : Int) < (j : Int) := by omega
                  have HR := Lib.hid (rowSo_more HROW.out HU.out HBU.out HALL.out)
                  have hul := (word_wd HBU.out).2.1
                  have hcw := bcell (below_up HBW.out HBI.out) HCU.out hg
                  have HBB := Lib.hid (below_up HBW.out HBI.out)
                  have q1 : (z.size + 2 > 9223372036854775807) = False := by simp; omega
                  have q2 : (z.size + 2 + u.size > 9223372036854775807) = False := by simp; omega
                  have q3 : (z.size + u.size > 9223372036854775807) = False := by simp; omega
                  clear hbi
                  by_cases h0 : 0 < j
                  · have h0I : (0 : Int) < (j : Int) := by omega
                    go_wp2
                    go_roundw
                    case rel => exact ⟨j + 1, _, by go_num, rfl, hlt, by have := HR.out; rw [if_pos h0] at this; exact this, HBB.out⟩
                    case measure => simp [intOf]; omega
                  · have h0I : ¬ (0 : Int) < (j : Int) := by omega
                    go_wp2
                    go_roundw
                    case rel => exact ⟨j + 1, _, by go_num, rfl, hlt, by have := HR.out; rw [if_neg h0] at this; exact this, HBB.out⟩
                    case measure => simp [intOf]; omega
          · obtain rfl : k = n1 := by omega
            have hkI : ¬ (k : Int) < (k : Int) := by omega
            have HLEN := Lib.hid (len_byte body)
            obtain ⟨wo, hwo⟩ : ∃ wo, wr = wo := ⟨_, rfl⟩
            rw [hwo] at HBW ⊢
            clear hwo hbw
            go_wp2
            go_loop [10] (fun i => ∃ k : Nat, i = .int .i64 (k : Int) ∧ k ≤ body.size ∧ ∀ j, j < k → BdC (body.data.toList.getD j 0)) (fun i => body.size - (intOf i).toNat)
            case atStart => exact ⟨0, rfl, Nat.zero_le _, fun j hj => by omega⟩
            case round =>
              obtain ⟨j, rfl, hj, hall⟩ := hrel
              have HALL := Lib.hid hall
              clear hall
              by_cases hjl : j < body.size
              · have hg := get_byte body j hjl
                obtain ⟨c, hc⟩ : ∃ c, body[j] = c := ⟨_, rfl⟩
                have HC : Hid (body.data.toList.getD j 0 = c) := Lib.hid (hg.trans hc)
                have hjI : (j : Int) < (body.size : Int) := by omega
                clear hg
                have hcl : c.toNat < 256 := c.toNat_lt
                by_cases f1 : (c.toNat : Int) < 97
                · by_cases f3 : c = 32
                  · have f3b : ((c.toNat : Int) != 32) = false := by rw [f3]; rfl
                    have HBD : Hid (BdC c) := Lib.hid (.inr (.inr (.inr f3)))
                    go_wp2
                    go_round
                    case rel =>
                      refine ⟨j + 1, by go_num, hjl, fun i hi => ?_⟩
                      rcases Nat.lt_or_ge i j with h | h
                      · exact HALL.out i h
                      · obtain rfl : i = j := by omega
                        rw [HC.out]
                        exact HBD.out
                    case measure => simp [intOf]; omega
                  · have f3n : (c.toNat : Int) ≠ 32 := fun e => f3 (UInt8.toNat_inj.1 (by show c.toNat = 32; omega))
                    have f3b : ((c.toNat : Int) != 32) = true := by simpa using f3n
                    by_cases f4 : c = 43
                    · have f4b : ((c.toNat : Int) != 43) = false := by rw [f4]; rfl
                      have HBD : Hid (BdC c) := Lib.hid (.inr (.inr (.inl f4)))
                      go_wp2
                      go_round
                      case rel =>
                        refine ⟨j + 1, by go_num, hjl, fun i hi => ?_⟩
                        rcases Nat.lt_or_ge i j with h | h
                        · exact HALL.out i h
                        · obtain rfl : i = j := by omega
                          rw [HC.out]
                          exact HBD.out
                      case measure => simp [intOf]; omega
                    · have f4n : (c.toNat : Int) ≠ 43 := fun e => f4 (UInt8.toNat_inj.1 (by show c.toNat = 43; omega))
                      have f4b : ((c.toNat : Int) != 43) = true := by simpa using f4n
                      clear f3 f4 f3n f4n
                      by_cases f5 : (c.toNat : Int) < 48
                      · skip
                        go_wp2_with (go_at_call 8; (with_reducible refine (HAW.out _).mono ?_); rintro e w2 ⟨rfl, hb⟩; have HB := Lib.hid (below_up HBW.out hb); clear hb)
                        go_ret
                        exact ⟨rfl, HB.out⟩
                      · by_cases f6 : (57 : Int) < (c.toNat : Int)
                        · skip
                          go_wp2_with (go_at_call 8; (with_reducible refine (HAW.out _).mono ?_); rintro e w2 ⟨rfl, hb⟩; have HB := Lib.hid (below_up HBW.out hb); clear hb)
                          go_ret
                          exact ⟨rfl, HB.out⟩
                        · skip
                          have HBD : Hid (BdC c) := Lib.hid (.inr (.inl ⟨by omega, by omega⟩))
                          go_wp2
                          go_round
                          case rel =>
                            refine ⟨j + 1, by go_num, hjl, fun i hi => ?_⟩
                            rcases Nat.lt_or_ge i j with h | h
                            · exact HALL.out i h
                            · obtain rfl : i = j := by omega
                              rw [HC.out]
                              exact HBD.out
                          case measure => simp [intOf]; omega
                · by_cases f2 : (122 : Int) < (c.toNat : Int)
                  · have f3b : ((c.toNat : Int) != 32) = true := by simp; omega
                    have f4b : ((c.toNat : Int) != 43) = true := by simp; omega
                    have f5 : ¬ (c.toNat : Int) < 48 := by omega
                    have f6 : (57 : Int) < (c.toNat : Int) := by omega
                    go_wp2_with (go_at_call 8; (with_reducible refine (HAW.out _).mono ?_); rintro e w2 ⟨rfl, hb⟩; have HB := Lib.hid (below_up HBW.out hb); clear hb)
                    go_ret
                    exact ⟨rfl, HB.out⟩
                  · skip
                    have HBD : Hid (BdC c) := Lib.hid (.inl ⟨by omega, by omega⟩)
                    go_wp2
                    go_round
                    case rel =>
                      refine ⟨j + 1, by go_num, hjl, fun i hi => ?_⟩
                      rcases Nat.lt_or_ge i j with h | h
                      · exact HALL.out i h
                      · obtain rfl : i = j := by omega
                        rw [HC.out]
                        exact HBD.out
                    case measure => simp [intOf]; omega
              · obtain rfl : j = body.size := by omega
                have hjI : ¬ (body.size : Int) < (body.size : Int) := by omega
                have HF : Hid (∃ g f t bd m2 m3, FB name z body U g f t bd m2 m3) := Lib.hid (by
                  obtain ⟨r1, r2, r3, r4⟩ := HROW.out
                  obtain ⟨n1, n2, n3⟩ := word_wd HB0.out
                  rw [show U.take k = U from List.take_of_length_le (by rw [← HN1.out]; exact Nat.le_refl _)] at r1 r2 r3
                  refine forms_all ⟨n1, n3, fun p hp => ?_, ?_, fun c hc => ?_⟩ r1 n2 (by omega) hb2
                  · obtain ⟨s, hs, rfl⟩ := List.mem_map.1 hp
                    exact (word_wd (r2 s hs)).1
                  · exact List.pairwise_map.2 (r3.imp fun {a b} hab e => hab (ByteArray.ext (Array.toList_inj.1 e)))
                  · obtain ⟨i, hi, rfl⟩ := List.getElem_of_mem hc
                    have := HALL.out i (by rw [HLEN.out] at hi; exact hi)
                    rw [List.getD_eq_getElem?_getD, List.getElem?_eq_getElem hi] at this
                    exact this)
                obtain ⟨fg, ff, ft, bd, m2, m3, hFB⟩ := HF.out
                have h20 := (word_wd HB0.out).2.1
                have hz2 : z.size ≤ 200 := by omega
                obtain ⟨tx, htx⟩ : ∃ tx : ByteArray, (⟨(textT bd).toArray⟩ : ByteArray) = tx := ⟨_, rfl⟩
                have htz : tx.size ≤ 50000 := by rw [← htx]; show (textT bd).toArray.size ≤ _; simpa using hFB.tsz
                obtain ⟨nm2, fn2, va2, ps2, bd2, g2, f2, t2⟩ := m2
                obtain rfl : fn2 = false := hFB.fn2
                have hlen2 : 2 ≤ bd2.length := hFB.bd2
                have HONE := Lib.hid hFB.one
                have HTWO := Lib.hid hFB.two
                have hBY := hFB.bdy
                have hTX := hFB.txt
                have hAG := hFB.aga
                rw [htx] at hTX hAG
                have HBY := Lib.hid hBY
                have HTX := Lib.hid hTX
                have HAG := Lib.hid hAG
                have HSAM := Lib.hid hFB.sam
                have HI3 := Lib.hid hFB.ill3
                have HI4 := Lib.hid hFB.ill4
                have HL2 := Lib.hid hlen2
                have p1 : (name.size + 1 > 9223372036854775807) = False := by simp; omega
                have p2 : (name.size + 1 + z.size > 9223372036854775807) = False := by simp; omega
                have p3 : (name.size + 1 + z.size + 2 > 9223372036854775807) = False := by simp; omega
                have p4 : (name.size + 1 + z.size + 2 + body.size > 9223372036854775807) = False := by simp; omega
                have p5 : (name.size + 3 > 9223372036854775807) = False := by simp; omega
                have p6 : (name.size + 3 + z.size > 9223372036854775807) = False := by simp; omega
                have p7 : (name.size + 3 + z.size + 3 > 9223372036854775807) = False := by simp; omega
                have p8 : (name.size + 3 + z.size + 3 + body.size > 9223372036854775807) = False := by simp; omega
                have p9 : (name.size + 1 + z.size + 2 + tx.size > 9223372036854775807) = False := by simp; omega
                have pa : (name.size + 1 + z.size + 5 > 9223372036854775807) = False := by simp; omega
                have pb : (name.size + 1 + z.size + 5 + body.size > 9223372036854775807) = False := by simp; omega
                have pc : (name.size + 1 + z.size + 5 + body.size + 1 > 9223372036854775807) = False := by simp; omega
                clear hFB hBY hTX hAG htx htz hlen2 hz2 h20 hz22 HF
                go_wp2_with (first
                  | (go_at_call 20; first
                      | ((with_reducible refine (HONE.out _).mono ?_); rintro e w1 ⟨va1, vn1, vc1, rfl, hb, hp⟩; have HP1 := Lib.hid hp; have HB1 := Lib.hid (below_up HBW.out hb); clear hb hp)
                      | ((with_reducible refine (HTWO.out _).mono ?_); rintro e w3 ⟨va3, vn3, vc3, rfl, hb, hp⟩; have HP2 := Lib.hid hp; have HQ3 := Lib.hid ((hb.block w2.heap.size (by simp)).trans (heap_alloc_new w2 _)); have HB23 := Lib.hid (below_up ((Below.refl w2.heap.size w2).alloc (Nat.le_refl _) _) hb); clear hb hp))
                  | (go_at_call 19; first
                      | ((with_reducible refine HP1.out.mono ?_); rintro e w2 ⟨qa, qn, qc, ba, bn, bc, rfl, hpn, hbn, hm, hb⟩; have HM2 := Lib.hid hm; have HBN := Lib.hid hbn; have HB2 := Lib.hid (below_up HB1.out hb); clear hm hpn hbn hb)
                      | ((with_reducible refine HP2.out.mono ?_); rintro e w4 ⟨qa2, qn2, qc2, ba2, bn2, bc2, rfl, -, hbn2, -, hb⟩; have HBN2 := Lib.hid hbn2; have HB34 := Lib.hid hb; clear hbn2 hb)))
                obtain ⟨m1, hm1⟩ : ∃ m1 : Xm, (⟨name, true, false, U, bd, fg, ff, ft⟩ : Xm) = m1 := ⟨_, rfl⟩
                have HM1 := Lib.hid hm1
                have hq5 : (w4.alloc (mObj ⟨nm2, false, va2, ps2, bd2, g2, f2, t2⟩ (.slice qa2 qn2 qc2) (.slice ba2 bn2 bc2))).heap[w4.heap.size]? = some (mObj ⟨nm2, false, va2, ps2, bd2, g2, f2, t2⟩ (.slice qa2 qn2 qc2) (.slice ba2 bn2 bc2)) := heap_alloc_new w4 _
                have hb45 : Below w4.heap.size w4 (w4.alloc (mObj ⟨nm2, false, va2, ps2, bd2, g2, f2, t2⟩ (.slice qa2 qn2 qc2) (.slice ba2 bn2 bc2))) := (Below.refl _ _).alloc (Nat.le_refl _) _
                obtain ⟨w5, hw5⟩ : ∃ w5, w4.alloc (mObj ⟨nm2, false, va2, ps2, bd2, g2, f2, t2⟩ (.slice qa2 qn2 qc2) (.slice ba2 bn2 bc2)) = w5 := ⟨_, rfl⟩
                have hw5' : w4.alloc (Obj.cells #[Value.string nm2, Value.bool false, Value.bool va2, Value.slice qa2 qn2 qc2, Value.slice ba2 bn2 bc2, Value.string g2, Value.int IntKind.i64 f2, Value.int IntKind.i64 t2] 38) = w5 := hw5
                rw [hw5] at hq5 hb45
                rw [hw5']
                have HB25 : Hid (Below w2.heap.size w2 w5) := Lib.hid (below_up (below_up HB23.out HB34.out) hb45)
                have HB5 : Hid (Below W.heap.size W w5) := Lib.hid (below_up HB2.out HB25.out)
                have HQ5 : Hid (w5.heap[w2.heap.size]? = some (mObj ⟨name, true, false, U, bd, fg, ff, ft⟩ (.slice qa qn qc) (.slice ba bn bc))) := Lib.hid (by
                  have h := HQ3.out
                  have h4 := (HB34.out.block w2.heap.size (row_lt h)).trans h
                  exact (hb45.block w2.heap.size (row_lt h4)).trans h4)
                have HM5 : Hid (MacAt ⟨name, true, false, U, bd, fg, ff, ft⟩ (.slice qa qn qc) (.slice ba bn bc) w5) := Lib.hid (HM2.out.over HB25.out)
                obtain ⟨p, hp⟩ : ∃ p, w2.heap.size = p := ⟨_, rfl⟩
                obtain ⟨q, hq⟩ : ∃ q, w4.heap.size = q := ⟨_, rfl⟩
                rw [hp] at HQ5
                rw [hq] at hq5
                rw [hp, hq]
                obtain ⟨⟨y0, y1, -, y3, y4, -⟩, -⟩ := mObj_cells HQ5.out
                obtain ⟨⟨-, z1, -, -, z4, -⟩, -⟩ := mObj_cells hq5
                simp only at y0 y1 z1
                have hps := row_lt HQ5.out
                have hqs := row_lt hq5
                have HBY2 : Hid (∀ X, Calls Try.prog 20 #[.string body] X (fun e w' => ∃ a c, e = .returned (.slice a bn c) ∧ Below X.heap.size X w')) := Lib.hid (by
                  have h := HBY.out
                  have hb : bn = bd.length := HBN.out
                  rw [← hb] at h
                  exact h)
                have HTT : Hid (∀ X : World, Below w5.heap.size w5 X → Calls Try.prog 21 #[.slice qa qn qc, .slice a1 k c1] X (fun e w' => e = .returned (.bool true) ∧ ∃ n, w' = X.drewN n)) := Lib.hid (fun X hX => by
                  have := aTexts_any (HM5.out.1.over hX) (H1.out.over (HB5.out.trans (hX.mono HB5.out.size)))
                  rw [decide_eq_true rfl] at this
                  exact this)
                have hnn : (name.toList == name.toList) = true := by simp
                have hbb : ((bn : Int) != (bn : Int)) = false := by simp
                have hb22 : ¬ ((bn2 : Int) < 2) := by have h1 : bn2 = bd2.length := HBN2.out; have := HL2.out; omega
                clear hw5 hw5' hq5 hb45 hp hq HQ3 HBY HONE HTWO HP1 HP2 HB23 HB34 HB1 HM2 hm1
                go_region_held3 (fun w' => w'.cell? ⟨p, 0, none⟩ = some (.string name) ∧ w'.cell? ⟨p, 1, none⟩ = some (.bool true) ∧ w'.cell? ⟨p, 3, none⟩ = some (.slice qa qn qc) ∧ w'.cell? ⟨p, 4, none⟩ = some (.slice ba bn bc) ∧ w'.cell? ⟨q, 1, none⟩ = some (.bool false) ∧ w'.cell? ⟨q, 4, none⟩ = some (.slice ba2 bn2 bc2))
                  (first | go_keep)
                  (first
                    | (go_at_call 21
                       (refine (HTT.out _ (Below.refl _ _).drew).mono ?_)
                       rintro e w6 ⟨rfl, nt, hw6⟩
                       have hb6 : Below w5.heap.size w5 w6 := by rw [hw6]; exact (Below.refl w5.heap.size w5).drew.trans ((Below.of_drews _ _).mono (Nat.le_refl _))
                       have HB56 := Lib.hid hb6
                       have k0 := bcell hb6 y0 hps
                       have k1 := bcell hb6 y1 hps
                       have k3 := bcell hb6 y3 hps
                       have k4 := bcell hb6 y4 hps
                       have k5 := bcell hb6 z1 hqs
                       have k6 := bcell hb6 z4 hqs
                       clear hb6 hw6)
                    | (go_at_call 20
                       (refine (HBY2.out _).mono ?_)
                       rintro e w7 ⟨ta, tc, rfl, hb⟩
                       have hb7 : Below w5.heap.size w5 w7 := below_up HB56.out hb
                       have HB57 := Lib.hid hb7
                       have j0 := bcell hb7 y0 hps
                       have j1 := bcell hb7 y1 hps
                       have j3 := bcell hb7 y3 hps
                       have j4 := bcell hb7 y4 hps
                       have j5 := bcell hb7 z1 hqs
                       have j6 := bcell hb7 z4 hqs
                       clear hb hb7))
                clear k0 k1 k3 k4 k5 k6 y0 y1 y3 y4 z1 z4 j0 j1 j3 j5 j6
                have HQ7 := Lib.hid ((HB57.out.block p hps).trans HQ5.out)
                have HM7 : Hid (MacAt ⟨name, true, false, U, bd, fg, ff, ft⟩ (.slice qa qn qc) (.slice ba bn bc) w7) := Lib.hid (HM5.out.over HB57.out)
                have HMT7 : Hid (ToksX bd (.slice ba bn bc) w7) := Lib.hid HM7.out.2
                have HB7 : Hid (Below W.heap.size W w7) := Lib.hid (below_up HB5.out HB57.out)
                go_wp2_with (first
                  | (go_at_call 22; (with_reducible refine (HTX.out _ _ HMT7.out).mono ?_); rintro e w8 ⟨rfl, rfl⟩)
                  | (go_at_call 20; first
                      | ((with_reducible refine (HAG.out _).mono ?_); rintro e w9 ⟨va9, vn9, vc9, rfl, hb, hp⟩; have HP3 := Lib.hid hp; have HB79 := Lib.hid hb; clear hb hp)
                      | ((with_reducible refine (HI3.out _).mono ?_); rintro e w11 ⟨va11, vn11, vc11, rfl, hb, hp⟩; have HP4 := Lib.hid hp; have HQ11 := Lib.hid ((hb.block w10.heap.size (by simp)).trans (heap_alloc_new w10 _)); have HB1011 := Lib.hid (below_up ((Below.refl w10.heap.size w10).alloc (Nat.le_refl _) _) hb); clear hb hp)
                      | ((with_reducible refine (HI4.out _).mono ?_); rintro e w13 ⟨va13, vn13, vc13, rfl, hb, hp⟩; have HP5 := Lib.hid hp; have HB1213 := Lib.hid (below_up ((Below.refl w12.heap.size w12).alloc (Nat.le_refl _) _) hb); clear hb hp))
                  | (go_at_call 19; first
                      | ((with_reducible refine HP3.out.mono ?_); rintro e w10 ⟨ra, rn, rc, sa, sn, sc, rfl, -, -, hm, hb⟩; have HM10 := Lib.hid hm; have HB710 := Lib.hid (below_up HB79.out hb); clear hm hb)
                      | ((with_reducible refine HP4.out.mono ?_); rintro e w12 ⟨g3, rfl, hb, hgl, hgc⟩; have HG12 := Lib.hid (And.intro hgl hgc); have HB1012 := Lib.hid (below_up HB1011.out hb); have HB1112 := Lib.hid hb; clear hb hgl hgc)))
                clear j4
                (with_reducible refine HP5.out.mono ?_)
                rintro e w14 ⟨g4, rfl, hb14, hg4l, hg4c⟩
                have hb1114 : Below w11.heap.size w11 w14 := below_up (below_up HB1112.out HB1213.out) hb14
                have hb1214 : Below w12.heap.size w12 w14 := below_up HB1213.out hb14
                have hb1014 : Below w10.heap.size w10 w14 := below_up (below_up HB1012.out HB1213.out) hb14
                have hb714 : Below w7.heap.size w7 w14 := below_up HB710.out hb1014
                have HQ14 := Lib.hid ((hb714.block p (row_lt HQ7.out)).trans HQ7.out)
                have hr14 : w14.heap[w10.heap.size]? = some (mObj m3 (.slice ra rn rc) (.slice sa sn sc)) := (hb1114.block w10.heap.size (row_lt HQ11.out)).trans HQ11.out
                obtain ⟨r, hr⟩ : ∃ r, w10.heap.size = r := ⟨_, rfl⟩
                rw [hr] at hr14 ⊢
                have HR14 := Lib.hid hr14
                have hg3c := bcell hb1214 HG12.out.2 HG12.out.1
                have hg3l := Nat.lt_of_lt_of_le HG12.out.1 hb1214.size
                have HB14 : Hid (Below W.heap.size W w14) := Lib.hid (below_up HB7.out hb714)
                have HMA : Hid (MacAt ⟨name, true, false, U, bd, fg, ff, ft⟩ (.slice qa qn qc) (.slice ba bn bc) w14) := Lib.hid (HM7.out.over hb714)
                have HMB : Hid (MacAt m3 (.slice ra rn rc) (.slice sa sn sc) w14) := Lib.hid (HM10.out.over hb1014)
                have HSM : Hid (∀ X : World, Below w14.heap.size w14 X → Calls Try.prog 23 #[.agg #[.string name, .bool true, .bool false, .slice qa qn qc, .slice ba bn bc, .string fg, .int .i64 ff, .int .i64 ft], .agg #[.string m3.n, .bool m3.fn, .bool m3.va, .slice ra rn rc, .slice sa sn sc, .string m3.g, .int .i64 m3.f, .int .i64 m3.t]] X (BoolNew true X)) := Lib.hid (fun X hX => by
                  have h := mSame_any (HMA.out.over hX) (HMB.out.over hX)
                  rw [HSAM.out] at h
                  exact h)
                obtain ⟨⟨y0, y1, y2, y3, y4, y5, y6, y7⟩, -⟩ := mObj_cells HQ14.out
                obtain ⟨⟨z0, z1, z2, z3, z4, z5, z6, z7⟩, -⟩ := mObj_cells HR14.out
                simp only at y0 y1 y2 y5 y6 y7
                have hpl := row_lt HQ14.out
                have hrl := row_lt HR14.out
                have hp1 : p ≠ w14.heap.size := by omega
                have hp2 : w14.heap.size ≠ p := by omega
                have hr1 : r ≠ w14.heap.size := by omega
                have hr2 : w14.heap.size ≠ r := by omega
                clear hb14 hb1114 hb1214 hb1014 hb714 hr14 hr HQ11 HB1112 HB1213 HB1012 HB710 HB1011 HB79 HG12
                go_wp2_with (first
                  | (go_at_call 23
                     (with_reducible refine (HSM.out _ ((Below.refl w14.heap.size w14).alloc (Nat.le_refl _) _)).mono ?_)
                     rintro e w16 ⟨rfl, hb⟩
                     have hb16 : Below w14.heap.size w14 w16 := below_up ((Below.refl w14.heap.size w14).alloc (Nat.le_refl _) _) hb
                     have c3 := bcell hb16 hg3c hg3l
                     have c4 := bcell hb16 hg4c hg4l
                     have HB16 := Lib.hid (below_up HB14.out hb16)
                     clear hb hb16)
                  | (go_at_call 8; (with_reducible refine (HAW.out _).mono ?_); rintro e w17 ⟨rfl, hb⟩; have HB17 := Lib.hid (below_up HB16.out hb); clear hb))
                go_ret
                exact ⟨rfl, HB17.out⟩
      · have hn8I : ¬ (8 : Int) < (n1 : Int) := by omega
        have hb2I : (200 : Int) < (body.size : Int) := by omega
        go_enter Try.func4, Try.ntmps4
        go_wp2_with (first
          | (go_at_call 18; (with_reducible refine HW0.out.mono ?_); rintro e w1 ⟨rfl, rfl⟩)
          | (go_at_call 8; (with_reducible refine (HAW.out _).mono ?_); rintro e w2 ⟨rfl, hb⟩; have HB := Lib.hid hb; clear hb))
        go_ret
        exact ⟨rfl, HB.out⟩
    · have hn8I : (8 : Int) < (n1 : Int) := by omega
      go_enter Try.func4, Try.ntmps4
      go_wp2_with (first
        | (go_at_call 18; (with_reducible refine HW0.out.mono ?_); rintro e w1 ⟨rfl, rfl⟩)
        | (go_at_call 8; (with_reducible refine (HAW.out _).mono ?_); rintro e w2 ⟨rfl, hb⟩; have HB := Lib.hid hb; clear hb))
      go_ret
      exact ⟨rfl, HB.out⟩

end Go.Proofs.Ytmghocfkekggaaa
