/-
  Texts of the proof, put together: LDRest.
-/
import Derived.Test.YtlnlpahmfpjjdaaDoorG32
import Derived.Deep.RegionHeld3
import Derived.Test.YtlnlpahmfpjjdaaDoorG07

/-
  DirectRest, walked.
-/
namespace Go.Proofs.YtlnlpahmfpjjdaaDoor
open Go.RowKit

set_option maxRecDepth 100000 in
set_option maxHeartbeats 6400000 in
theorem rest_law {T : List Xt} {v : Value} {W : World} (h : ToksX T v W) (hW : WordsAt 0 W) (h0 : 0 < W.heap.size) : Calls Tryd.prog 5 #[v] W (TruePost W) := by
  obtain ⟨a, n, cap, rfl⟩ := h.form
  have HF : Hid (Calls Tryd.prog 10 #[.slice a n cap, .int .i64 60] W (BoolPost (fewB T 60) W)) := Lib.hid (few_any h 60 (by omega))
  have HA : Hid (∀ X : World, Below W.heap.size W X → Calls Tryd.prog 11 #[] X (TruePost X)) := Lib.hid (fun X b => awake7_any (hW.next b h0) (Nat.lt_of_lt_of_le h0 b.size))
  by_cases hf : fewB T 60 = true
  · obtain ⟨hl, hs⟩ := few_is hf
    rw [hf] at HF
    have hk14 := kindL_le T
    have HKA : Hid (∀ X : World, Below W.heap.size W X → Calls Tryd.prog 12 #[.slice a n cap] X (IntNew (kindL T : Nat) X)) := Lib.hid (fun X b => kind_any (h.over b) (hW.next b h0) (Nat.lt_of_lt_of_le h0 b.size))
    have HRA : Hid (∀ X : World, Below W.heap.size W X → Calls Tryd.prog 15 #[.slice a n cap] X (ToksNew X (restL T))) := Lib.hid (fun X b => rest_any (h.over b) (hW.next b h0) (Nat.lt_of_lt_of_le h0 b.size) (by omega) (fun t ht => by have := (hs t ht).2; omega))
    by_cases hk : kindL T < 2
    · rw [rest_low hk] at HRA
      have hcs : kindL T = 0 ∨ kindL T = 1 := by omega
      clear hk hk14 h hW hl hs hf
      rcases hcs with e | e
      all_goals
        rw [e] at HKA
        clear e
        go_enter Tryd.func5, Tryd.ntmps5
        go_wp2_with (first
          | (go_at_call 10; (with_reducible refine HF.out.mono ?_); rintro e w' ⟨rfl, rfl⟩)
          | (go_at_call 12; (with_reducible refine (HKA.out _ (Below.refl _ _)).mono ?_); rintro e w1 ⟨rfl, hb⟩; have HB1 := Lib.hid hb; clear hb)
          | (go_at_call 15; (with_reducible refine (HRA.out _ HB1.out).mono ?_); rintro e w2 ⟨a3, n3, c3, rfl, hn3, -, hb⟩; have HB2 := Lib.hid (below_up HB1.out hb); (obtain rfl : n3 = 0 := hn3); clear hb)
          | (go_at_call 11; (with_reducible refine (HA.out _ HB2.out).mono ?_); rintro e w8 ⟨rfl, hb⟩; have HB8 := Lib.hid (below_up HB2.out hb); clear hb))
        go_ret
        exact ⟨rfl, HB8.out⟩
    · have hl2 := kindL_len (T := T) (by omega)
      obtain ⟨hn, hc1, hc2⟩ := h.len
      obtain ⟨g, o, -, -, -, rfl, -⟩ := h.get (List.getElem?_eq_getElem (show 0 < T.length by omega))
      obtain ⟨o', ho, hrun⟩ := slice2_run g o n cap (by omega) hc1
      have HD := Lib.hid (drop2_toks h (by omega) ho)
      have hwd := kindL_word (T := T) (by omega)
      rw [rest_high hk] at HRA
      have HN3 : Hid ((T.drop 2).length = n - 2) := Lib.hid (by rw [List.length_drop, hn])
      unfold maxLen at hc2
      have hn2 : 2 ≤ n := by omega
      have hni : ¬ (n : Int) < 2 := by omega
      have hn1 : (1 : Int) < (n : Int) := by omega
      have hn0 : (0 : Int) ≤ 1 := by omega
      have hnw : IntKind.i64.wrap ((n : Int) - 2) = ((n - 2 : Nat) : Int) := by rw [IntWalk.i64_in _ (by omega)]; omega
      obtain ⟨s, hs1⟩ : ∃ s, T[1]? = some s := ⟨_, List.getElem?_eq_getElem (by omega)⟩
      obtain ⟨g', o2, sa, sn, sc, he, hg, -, ⟨-, c1, -⟩, -⟩ := h.get hs1
      obtain ⟨rfl, rfl⟩ : g = g' ∧ o = o2 := by simpa using he
      rw [Nat.one_mul] at c1
      have HC1 : Hid (W.cell? ⟨g, o + 8 + 1, none⟩ = some (.string s.x)) := Lib.hid c1
      have HG := Lib.hid hg
      have HWX : Hid (∀ (X : World) (kd : Int), Below W.heap.size W X → Calls Tryd.prog 17 #[.int .i64 kd] X (StrIs (wordZ kd) X)) := Lib.hid (fun X kd b => word_is kd (hW.next b h0))
      clear h he hg c1 hl hs hf
      rcases hwd with e | ⟨e1, t, ht, e2⟩
      · have hki14 : ((kindL T : Nat) : Int) = 14 := by omega
        have hki0 : ¬ ((kindL T : Nat) : Int) = 0 := by omega
        have hki1 : ¬ ((kindL T : Nat) : Int) = 1 := by omega
        have hki2 : (2 : Int) ≤ ((kindL T : Nat) : Int) := by omega
        have hki3 : ((kindL T : Nat) : Int) ≤ 14 := by omega
        obtain ⟨K, hK⟩ : ∃ K : Int, ((kindL T : Nat) : Int) = K := ⟨_, rfl⟩
        rw [hK] at HKA hki0 hki1 hki14 hki2 hki3
        have k0 : (K == 0) = false := by simpa using hki0
        have k1 : (K == 1) = false := by simpa using hki1
        have k14 : (K == 14) = true := by simpa using hki14
        clear e hK hki0 hki1 hki14 hk hk14 hs1 ho hn hl2 HWX hW
        go_enter Tryd.func5, Tryd.ntmps5
        go_wp2_with (first
          | (go_at_call 10; (with_reducible refine HF.out.mono ?_); rintro e w' ⟨rfl, rfl⟩)
          | (go_at_call 12; (with_reducible refine (HKA.out _ (Below.refl _ _)).mono ?_); rintro e w1 ⟨rfl, hb⟩; have HB1 := Lib.hid hb; clear hb)
          | (go_at_call 15; (with_reducible refine (HRA.out _ HB1.out).mono ?_); rintro e w2 ⟨a3, n3, c3, rfl, hn3, hx, hb⟩; have HB2 := Lib.hid (below_up HB1.out hb); (obtain rfl : n3 = n - 2 := hn3.trans HN3.out); have HS2 := Lib.hid (sameToks_any hx (HD.out.over HB2.out)); clear hb hx hn3)
          | (go_at_call 14; (with_reducible refine HS2.out.mono ?_); rintro e w5 ⟨rfl, hb⟩; have HB5 := Lib.hid (below_up HB2.out hb); clear hb))
        have HBD := Lib.hid HB5.out.drew
        refine region_anyT (fun _ => True) 22 (by kernel_rfl) ?_
        refine anyT_take 0 [1, 2, 3, 4, 5, 6, 7, 8, 9, 10, 11, 12, 13, 14, 15, 16, 17, 18, 19, 20, 21, 22] (v := ?_) rfl (by kernel_rfl) (fun _ _ _ h => h) (Or.inl ⟨by kernel_rfl, ?_⟩) trivial ?_
        rotate_left
        · (intro w hSw; go_simp; (try with_reducible rfl))
        (try simp only [Act.put]); (try simp only [List.setIfInBounds_toArray]); (try simp only [List.set_cons_succ]); (try simp only [List.set_cons_zero])
        refine anyT_take 1 [2, 3, 4, 5, 6, 7, 8, 9, 10, 11, 12, 13, 14, 15, 16, 17, 18, 19, 20, 21, 22] (v := ?_) rfl (by kernel_rfl) (fun _ _ _ h => h) (Or.inl ⟨by kernel_rfl, ?_⟩) trivial ?_
        rotate_left
        · (intro w hSw; go_simp; (try with_reducible rfl))
        (try simp only [Act.put]); (try simp only [List.setIfInBounds_toArray]); (try simp only [List.set_cons_succ]); (try simp only [List.set_cons_zero])
        refine anyT_take 2 [3, 4, 5, 6, 7, 8, 9, 10, 11, 12, 13, 14, 15, 16, 17, 18, 19, 20, 21, 22] (v := ?_) rfl (by kernel_rfl) (fun _ _ _ h => h) (Or.inl ⟨by kernel_rfl, ?_⟩) trivial ?_
        rotate_left
        · (intro w hSw; go_simp; (try with_reducible rfl))
        (try simp only [Act.put]); (try simp only [List.setIfInBounds_toArray]); (try simp only [List.set_cons_succ]); (try simp only [List.set_cons_zero])
        refine anyT_take 3 [4, 9, 10, 11, 12, 13, 14, 15, 16, 17, 18, 19, 20, 21, 22] (v := undef) rfl (by kernel_rfl) (fun _ _ _ h => h) (Or.inr ⟨by kernel_rfl, rfl⟩) trivial ?_
        (try simp only [Act.put]); (try simp only [List.setIfInBounds_toArray]); (try simp only [List.set_cons_succ]); (try simp only [List.set_cons_zero])
        refine anyT_take 5 [6, 7, 8, 9, 10, 11, 12, 13, 14, 15, 16, 17, 18, 19, 20, 21, 22] (v := undef) rfl (by kernel_rfl) (fun _ _ _ h => h) (Or.inr ⟨by kernel_rfl, rfl⟩) trivial ?_
        (try simp only [Act.put]); (try simp only [List.setIfInBounds_toArray]); (try simp only [List.set_cons_succ]); (try simp only [List.set_cons_zero])
        refine anyT_take 6 [7, 8, 9, 10, 11, 12, 13, 14, 15, 16, 17, 18, 19, 20, 21, 22] (v := undef) rfl (by kernel_rfl) (fun _ _ _ h => h) (Or.inr ⟨by kernel_rfl, rfl⟩) trivial ?_
        (try simp only [Act.put]); (try simp only [List.setIfInBounds_toArray]); (try simp only [List.set_cons_succ]); (try simp only [List.set_cons_zero])
        refine anyT_take 7 [8, 9, 10, 11, 12, 13, 14, 15, 16, 17, 18, 19, 20, 21, 22] (v := undef) rfl (by kernel_rfl) (fun _ _ _ h => h) (Or.inr ⟨by kernel_rfl, rfl⟩) trivial ?_
        (try simp only [Act.put]); (try simp only [List.setIfInBounds_toArray]); (try simp only [List.set_cons_succ]); (try simp only [List.set_cons_zero])
        refine anyT_take 8 [9, 10, 11, 12, 13, 14, 15, 16, 17, 18, 19, 20, 21, 22] (v := undef) rfl (by kernel_rfl) (fun _ _ _ h => h) (Or.inr ⟨by kernel_rfl, rfl⟩) trivial ?_
        (try simp only [Act.put]); (try simp only [List.setIfInBounds_toArray]); (try simp only [List.set_cons_succ]); (try simp only [List.set_cons_zero])
        refine anyT_step 4 (by kernel_rfl) rfl (fun K hK => ?_)
        go_simp
        refine hK.out _ _ (fun _ => trivial) ?_
        clear hK K
        (try simp only [Act.put]); (try simp only [List.setIfInBounds_toArray]); (try simp only [List.set_cons_succ]); (try simp only [List.set_cons_zero])
        refine anyT_take 9 [10, 11, 12, 13, 14, 15, 16, 17, 18, 19, 20, 21, 22] (v := undef) rfl (by kernel_rfl) (fun _ _ _ h => h) (Or.inr ⟨by kernel_rfl, rfl⟩) trivial ?_
        (try simp only [Act.put]); (try simp only [List.setIfInBounds_toArray]); (try simp only [List.set_cons_succ]); (try simp only [List.set_cons_zero])
        refine anyT_take 10 [11, 12, 13, 14, 15, 16, 17, 18, 19, 20, 21, 22] (v := ?_) rfl (by kernel_rfl) (fun _ _ _ h => h) (Or.inl ⟨by kernel_rfl, ?_⟩) trivial ?_
        rotate_left
        · (intro w hSw; go_simp; (try with_reducible rfl))
        (try simp only [Act.put]); (try simp only [List.setIfInBounds_toArray]); (try simp only [List.set_cons_succ]); (try simp only [List.set_cons_zero])
        refine anyT_take 11 [12, 13, 14, 15, 16, 17, 18, 19, 20, 21, 22] (v := ?_) rfl (by kernel_rfl) (fun _ _ _ h => h) (Or.inl ⟨by kernel_rfl, ?_⟩) trivial ?_
        rotate_left
        · (intro w hSw; go_simp; (try with_reducible rfl))
        (try simp only [Act.put]); (try simp only [List.setIfInBounds_toArray]); (try simp only [List.set_cons_succ]); (try simp only [List.set_cons_zero])
        refine anyT_take 12 [13, 14, 15, 16, 17, 18, 19, 20, 21, 22] (v := ?_) rfl (by kernel_rfl) (fun _ _ _ h => h) (Or.inl ⟨by kernel_rfl, ?_⟩) trivial ?_
        rotate_left
        · (intro w hSw; go_simp; (try with_reducible rfl))
        (try simp only [Act.put]); (try simp only [List.setIfInBounds_toArray]); (try simp only [List.set_cons_succ]); (try simp only [List.set_cons_zero])
        refine anyT_take 13 [14, 15, 16, 17, 18, 19, 20, 21, 22] (v := ?_) rfl (by kernel_rfl) (fun _ _ _ h => h) (Or.inl ⟨by kernel_rfl, ?_⟩) trivial ?_
        rotate_left
        · (intro w hSw; go_simp; (try with_reducible rfl))
        (try simp only [Act.put]); (try simp only [List.setIfInBounds_toArray]); (try simp only [List.set_cons_succ]); (try simp only [List.set_cons_zero])
        refine anyT_take 14 [15, 16, 17, 18, 19, 20, 21, 22] (v := ?_) rfl (by kernel_rfl) (fun _ _ _ h => h) (Or.inl ⟨by kernel_rfl, ?_⟩) trivial ?_
        rotate_left
        · (intro w hSw; go_simp; (try with_reducible rfl))
        (try simp only [Act.put]); (try simp only [List.setIfInBounds_toArray]); (try simp only [List.set_cons_succ]); (try simp only [List.set_cons_zero])
        refine anyT_take 15 [16, 17, 18, 19, 20, 21, 22] (v := ?_) rfl (by kernel_rfl) (fun _ _ _ h => h) (Or.inl ⟨by kernel_rfl, ?_⟩) trivial ?_
        rotate_left
        · (intro w hSw; go_simp; (try with_reducible rfl))
        (try simp only [Act.put]); (try simp only [List.setIfInBounds_toArray]); (try simp only [List.set_cons_succ]); (try simp only [List.set_cons_zero])
        refine anyT_take 16 [17, 18, 19, 20, 21, 22] (v := ?_) rfl (by kernel_rfl) (fun _ _ _ h => h) (Or.inl ⟨by kernel_rfl, ?_⟩) trivial ?_
        rotate_left
        · (intro w hSw; go_simp; (try with_reducible rfl))
        (try simp only [Act.put]); (try simp only [List.setIfInBounds_toArray]); (try simp only [List.set_cons_succ]); (try simp only [List.set_cons_zero])
        refine anyT_take 17 [18, 19, 20, 21, 22] (v := ?_) rfl (by kernel_rfl) (fun _ _ _ h => h) (Or.inl ⟨by kernel_rfl, ?_⟩) trivial ?_
        rotate_left
        · (intro w hSw; go_simp; (try with_reducible rfl))
        (try simp only [Act.put]); (try simp only [List.setIfInBounds_toArray]); (try simp only [List.set_cons_succ]); (try simp only [List.set_cons_zero])
        refine anyT_take 18 [19, 20, 21, 22] (v := ?_) rfl (by kernel_rfl) (fun _ _ _ h => h) (Or.inl ⟨by kernel_rfl, ?_⟩) trivial ?_
        rotate_left
        · (intro w hSw; go_simp; (try with_reducible rfl))
        (try simp only [Act.put]); (try simp only [List.setIfInBounds_toArray]); (try simp only [List.set_cons_succ]); (try simp only [List.set_cons_zero])
        refine anyT_take 19 [20, 21, 22] (v := ?_) rfl (by kernel_rfl) (fun _ _ _ h => h) (Or.inl ⟨by kernel_rfl, ?_⟩) trivial ?_
        rotate_left
        · (intro w hSw; go_simp; (try with_reducible rfl))
        (try simp only [Act.put]); (try simp only [List.setIfInBounds_toArray]); (try simp only [List.set_cons_succ]); (try simp only [List.set_cons_zero])
        refine anyT_step 20 (by kernel_rfl) rfl (fun K hK => ?_)
        go_simp
        go_at_call 11
        (with_reducible refine (HA.out _ HBD.out).mono ?_)
        rintro e w8 ⟨rfl, hb⟩
        have HB8 := Lib.hid (below_up HBD.out hb)
        clear hb
        try go_wp2_with fail
        refine hK.out _ _ (fun _ => trivial) ?_
        clear hK K
        (try simp only [Act.put]); (try simp only [List.setIfInBounds_toArray]); (try simp only [List.set_cons_succ]); (try simp only [List.set_cons_zero])
        refine anyT_take 21 [22] (v := ?_) rfl (by kernel_rfl) (fun _ _ _ h => h) (Or.inl ⟨by kernel_rfl, ?_⟩) trivial ?_
        rotate_left
        · (intro w hSw; go_simp; (try with_reducible rfl))
        (try simp only [Act.put]); (try simp only [List.setIfInBounds_toArray]); (try simp only [List.set_cons_succ]); (try simp only [List.set_cons_zero])
        refine anyT_step 22 (by kernel_rfl) rfl (fun K hK => ?_)
        go_simp
        refine hK.out _ _ (fun h => absurd rfl h) ?_
        clear hK K
        (try simp only [Act.put]); (try simp only [List.setIfInBounds_toArray]); (try simp only [List.set_cons_succ]); (try simp only [List.set_cons_zero])
        refine anyT_done (by kernel_rfl) ?_ _
        go_wp2
        go_ret
        exact ⟨rfl, HB8.out⟩
      · rw [hs1] at ht
        obtain rfl := Option.some.inj ht
        have hz : wordZ ((kindL T : Nat) : Int) = s.x := by
          unfold wordZ
          rw [if_pos (by omega), e2]
          rfl
        have HWK : Hid (∀ X : World, Below W.heap.size W X → Calls Tryd.prog 17 #[.int .i64 ((kindL T : Nat) : Int)] X (StrIs s.x X)) := Lib.hid (fun X b => hz ▸ HWX.out X _ b)
        have hki0 : ¬ ((kindL T : Nat) : Int) = 0 := by omega
        have hki1 : ¬ ((kindL T : Nat) : Int) = 1 := by omega
        have hki14 : ¬ ((kindL T : Nat) : Int) = 14 := by omega
        have hki2 : (2 : Int) ≤ ((kindL T : Nat) : Int) := by omega
        have hki3 : ((kindL T : Nat) : Int) ≤ 14 := by omega
        obtain ⟨K, hK⟩ : ∃ K : Int, ((kindL T : Nat) : Int) = K := ⟨_, rfl⟩
        rw [hK] at HKA HWK hki0 hki1 hki14 hki2 hki3
        have k0 : (K == 0) = false := by simpa using hki0
        have k1 : (K == 1) = false := by simpa using hki1
        have k14 : (K == 14) = false := by simpa using hki14
        have hsx : (s.x.toList == s.x.toList) = true := by simp
        clear hK hki0 hki1 hki14 hz e1 ht e2 hk hk14 hs1 ho hn hl2 HWX hW
        go_enter Tryd.func5, Tryd.ntmps5
        go_wp2_with (first
          | (go_at_call 10; (with_reducible refine HF.out.mono ?_); rintro e w' ⟨rfl, rfl⟩)
          | (go_at_call 12; (with_reducible refine (HKA.out _ (Below.refl _ _)).mono ?_); rintro e w1 ⟨rfl, hb⟩; have HB1 := Lib.hid hb; clear hb)
          | (go_at_call 15; (with_reducible refine (HRA.out _ HB1.out).mono ?_); rintro e w2 ⟨a3, n3, c3, rfl, hn3, hx, hb⟩; have HB2 := Lib.hid (below_up HB1.out hb); (obtain rfl : n3 = n - 2 := hn3.trans HN3.out); have HS2 := Lib.hid (sameToks_any hx (HD.out.over HB2.out)); clear hb hx hn3)
          | (go_at_call 14; (with_reducible refine HS2.out.mono ?_); rintro e w5 ⟨rfl, hb⟩; have HB5 := Lib.hid (below_up HB2.out hb); clear hb))
        have HBD := Lib.hid HB5.out.drew
        go_region_held3 (fun w' => w'.cell? ⟨g, o + 8 + 1, none⟩ = some (.string s.x)) (first | exact bcell HBD.out HC1.out HG.out | exact bcell HB8.out HC1.out HG.out)
          (first
            | (go_at_call 11; (with_reducible refine (HA.out _ HBD.out).mono ?_); rintro e w8 ⟨rfl, hb⟩; have HB8 := Lib.hid (below_up HBD.out hb); clear hb)
            | (go_at_call 17; (with_reducible refine (HWK.out _ HBD.out).mono ?_); rintro e w6 ⟨rfl, rfl⟩))
        go_wp2
        go_ret
        exact ⟨rfl, HB8.out⟩
  · have hf' : fewB T 60 = false := by simpa using hf
    rw [hf'] at HF
    clear h hW hf hf'
    go_enter Tryd.func5, Tryd.ntmps5
    go_wp2_with (first
      | (go_at_call 10; (with_reducible refine HF.out.mono ?_); rintro e w' ⟨rfl, rfl⟩)
      | (go_at_call 11; (with_reducible refine (HA.out _ (Below.refl _ _)).mono ?_); rintro e w8 ⟨rfl, hb⟩; have HB8 := Lib.hid hb; clear hb))
    go_ret
    exact ⟨rfl, HB8.out⟩

end Go.Proofs.YtlnlpahmfpjjdaaDoor
