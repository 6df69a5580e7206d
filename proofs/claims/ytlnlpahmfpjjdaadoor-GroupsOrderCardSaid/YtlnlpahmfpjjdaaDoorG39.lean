/-
  Texts of the proof, put together: GrFlat, GrLight, GrBound.
-/
import Derived.Test.YtlnlpahmfpjjdaaDoorG18
import Derived.Test.YtlnlpahmfpjjdaaDoorG07
import Derived.Test.YtlnlpahmfpjjdaaDoorG13
import Derived.Test.YtlnlpahmfpjjdaaDoorG16

/-
  The document's Flat, walked.
-/
namespace Go.Proofs.YtlnlpahmfpjjdaaDoor
open Go.RowKit

theorem flatI_none {F : List Itm → List Int} {it : Itm} (h : it.arms = []) : flatI F it = [it.line] := by unfold flatI; rw [if_pos h]
theorem flatI_some {F : List Itm → List Int} {it : Itm} (h : it.arms ≠ []) : flatI F it = it.arms.flatMap fun a => a.1 :: F a.2 := by unfold flatI; rw [if_neg h]
theorem fm_take {α β : Type} (f : α → List β) {l : List α} {k : Nat} {a : α} (h : l[k]? = some a) : (l.take (k + 1)).flatMap f = (l.take k).flatMap f ++ f a := by
  rw [List.take_add_one, h, List.flatMap_append]
  simp
theorem fm_le {α β : Type} (f : α → List β) : ∀ (l : List α) (k : Nat), ((l.take k).flatMap f).length ≤ (l.flatMap f).length
  | [], k => by simp
  | a :: r, 0 => by simp
  | a :: r, k + 1 => by
    rw [List.take_succ_cons, List.flatMap_cons, List.flatMap_cons, List.length_append, List.length_append]
    have := fm_le f r k
    omega

set_option maxRecDepth 100000 in
set_option maxHeartbeats 6400000 in
theorem rflat_step {R : RelI} {F : List Itm → List Int} (hF : Formed R) (oR : Over R) (hR : ∀ l v w, R l v w → (F l).length ≤ 17592186044416 → Calls Tryd.prog 31 #[v] w (FlatPost w (F l))) {l : List Itm} {v : Value} {w : World} (h : ItsOf R l v w) (hbig : (l.flatMap (flatI F)).length ≤ 17592186044416) :
    Calls Tryd.prog 31 #[v] w (FlatPost w (l.flatMap (flatI F))) := by
  obtain ⟨a, n, cap, rfl, hn, hc1, hc2⟩ := h.form
  have HX := Lib.hid h
  have HN := Lib.hid hn
  have HR := Lib.hid hR
  have HF := Lib.hid hF
  have HOR := Lib.hid oR
  have HBIG := Lib.hid hbig
  unfold maxLen at hc2
  clear h hn hR hF oR hbig
  go_enter Tryd.func31, Tryd.ntmps31
  go_wp2
  go_loopw [3, 4] (fun ov i wr => ∃ (k : Nat) (ob : Option Addr) (on oc : Nat), i = .int .i64 (k : Int) ∧ k ≤ n ∧ ov = .slice ob on oc ∧ on = ((l.take k).flatMap (flatI F)).length ∧ Up w 3 1 (.slice ob on oc) on (ivals ((l.take k).flatMap (flatI F))) wr) (fun _ i _ => n - (intOf i).toNat)
  case atStart => exact ⟨0, none, 0, 0, rfl, Nat.zero_le _, rfl, rfl, up_nil w _ 1⟩
  case round =>
    obtain ⟨k, ob, on, oc, rfl, hk, rfl, hon, hU⟩ := hrel
    have HU0 := Lib.hid hU
    have HON := Lib.hid hon
    clear hU hon
    by_cases hlt : k < n
    · obtain ⟨it, hit⟩ : ∃ it, l[k]? = some it := ⟨_, List.getElem?_eq_getElem (by rw [← HN.out]; exact hlt)⟩
      obtain ⟨g, o, aa, an, ac, rfl, hg, han, hac1, hac2, ⟨c0, c1, c2⟩, hr⟩ := HX.out.get hit
      have HIT := Lib.hid hit
      have HAN := Lib.hid han
      have HAR := Lib.hid hr
      have HC := Lib.hid c2
      have hle : ((l.take (k + 1)).flatMap (flatI F)).length ≤ 17592186044416 := Nat.le_trans (fm_le _ l (k + 1)) HBIG.out
      rw [fm_take (flatI F) hit, List.length_append, ← HON.out] at hle
      have HLE := Lib.hid hle
      have e1 := bcell HU0.out.2 c1 hg
      have e2 := bcell HU0.out.2 c2 hg
      have hkI : (k : Int) < (n : Int) := by omega
      unfold maxLen at hac2
      clear hit han hr c0 c1 c2 hle
      by_cases h0 : an = 0
      · have hnil : it.arms = [] := List.eq_nil_of_length_eq_zero (by rw [← HAN.out]; exact h0)
        have hone : ((l.take (k + 1)).flatMap (flatI F)) = (l.take k).flatMap (flatI F) ++ [it.line] := by rw [fm_take (flatI F) HIT.out, flatI_none hnil]
        have HONE := Lib.hid hone
        have HLE2 : Hid (on + 1 ≤ 17592186044416) := Lib.hid (by have := HLE.out; rw [flatI_none hnil] at this; simpa using this)
        subst h0
        clear hone hnil
        go_wp2_with (at_builtin; refine wpList_append_ex rfl (.tmp 19) (.tmp 25) 54 rfl _ (ints_app (W := w) (xs := (l.take k).flatMap (flatI F)) (ys := [it.line]) (Up.alloc HU0.out _) (src_one _ _ _) HLE2.out) ?_; intro v' w1 hu; obtain ⟨vb, vc, rfl⟩ : ∃ a c, v' = .slice a (on + 1) c := (by obtain ⟨a, c, hv, -⟩ := row_form hu.1; exact ⟨a, c, hv⟩); have HU1 := Lib.hid hu; clear hu)
        go_loopw [3, 5] (fun ov i wi => ov = .slice vb (on + 1) vc ∧ i = .int .i64 0 ∧ Up w 3 1 (.slice vb (on + 1) vc) (on + 1) (ivals ((l.take k).flatMap (flatI F) ++ [it.line])) wi) (fun _ _ _ => 1)
        case atStart => exact ⟨rfl, rfl, HU1.out⟩
        case round =>
          obtain ⟨rfl, rfl, hu⟩ := hrel
          have e3 := bcell hu.2 HC.out hg
          have HU2 := Lib.hid hu
          clear hu
          go_wp2
          go_roundw
          case rel => exact ⟨k + 1, vb, on + 1, vc, by go_num, hlt, rfl, by rw [HONE.out, List.length_append, ← HON.out]; rfl, by rw [HONE.out]; exact HU2.out⟩
          case measure => simp [intOf]; omega
      · have hne : it.arms ≠ [] := fun e => h0 (by rw [HAN.out, e]; rfl)
        have hfl := flatI_some (F := F) hne
        have HLE2 : Hid (on + (it.arms.flatMap fun a => a.1 :: F a.2).length ≤ 17592186044416) := Lib.hid (by have := HLE.out; rw [hfl] at this; exact this)
        have HFL := Lib.hid hfl
        have hne0 : ((an : Int) == 0) = false := by simp; omega
        obtain ⟨xs0, hxs0⟩ : ∃ xs0, (l.take k).flatMap (flatI F) = xs0 := ⟨_, rfl⟩
        have HXS0 := Lib.hid hxs0
        rw [hxs0] at HU0 HON
        clear hfl hne h0 hxs0
        go_wp2
        go_loopw [3, 5] (fun ov i wi => ∃ (j : Nat) (ob : Option Addr) (on oc : Nat), i = .int .i64 (j : Int) ∧ j ≤ an ∧ ov = .slice ob on oc ∧ on = (xs0 ++ (it.arms.take j).flatMap fun a => a.1 :: F a.2).length ∧ Up w 3 1 (.slice ob on oc) on (ivals (xs0 ++ (it.arms.take j).flatMap fun a => a.1 :: F a.2)) wi) (fun _ i _ => an - (intOf i).toNat)
        case atStart => exact ⟨0, ob, on, oc, rfl, Nat.zero_le _, rfl, by simpa using HON.out, by simpa using HU0.out⟩
        case round =>
          obtain ⟨j, ob', on', oc', rfl, hj, rfl, hon', hU'⟩ := hrel
          have e3 := bcell hU'.2 HC.out hg
          have HU := Lib.hid hU'
          have HON' := Lib.hid hon'
          clear hU' hon'
          by_cases hltj : j < an
          · obtain ⟨x, hx⟩ : ∃ x, it.arms[j]? = some x := ⟨_, List.getElem?_eq_getElem (by rw [← HAN.out]; exact hltj)⟩
            obtain ⟨p, q, ia, im, ic, rfl, hp, ⟨d0, d1⟩, hr2⟩ := HAR.out.get HF.out hx
            have hbd : on' + 1 + (F x.2).length ≤ 17592186044416 := by
              have h1 := HLE2.out
              have h2 := fm_le (fun a : Int × List Itm => a.1 :: F a.2) it.arms (j + 1)
              rw [fm_take _ hx, List.length_append, List.length_cons] at h2
              have h3 := HON'.out
              rw [List.length_append, ← HON.out] at h3
              omega
            have HCL : Hid (∀ Y : World, Below w.heap.size w Y → Calls Tryd.prog 31 #[.slice ia im ic] Y (FlatPost Y (F x.2))) := Lib.hid (fun Y hY => HR.out _ _ _ (HOR.out _ _ _ _ hr2 hY) (by omega))
            have HSY : Hid (∀ Y : World, Below w.heap.size w Y → Y.cell? ⟨g, o + k * 3 + 2, none⟩ = some (.slice (some ⟨p, q, none⟩) an ac) ∧ Y.cell? ⟨p, q + j * 2, none⟩ = some (.int .i64 x.1) ∧ Y.cell? ⟨p, q + j * 2 + 1, none⟩ = some (.slice ia im ic)) := Lib.hid (fun Y hY => ⟨bcell hY HC.out hg, bcell hY d0 hp, bcell hY d1 hp⟩)
            have HXJ : Hid (xs0 ++ (it.arms.take (j + 1)).flatMap (fun a => a.1 :: F a.2) = ((xs0 ++ (it.arms.take j).flatMap fun a => a.1 :: F a.2) ++ [x.1]) ++ F x.2) := Lib.hid (by rw [fm_take _ hx]; simp)
            obtain ⟨xs, hxs⟩ : ∃ xs, xs0 ++ (it.arms.take j).flatMap (fun a => a.1 :: F a.2) = xs := ⟨_, rfl⟩
            rw [hxs] at HXJ HU HON'
            have hjI : (j : Int) < (an : Int) := by omega
            have hj0 : (0 : Int) ≤ (j : Int) := by omega
            have hk0 : (0 : Int) ≤ (k : Int) := by omega
            clear hx d0 d1 hr2 hxs
            go_wp2
            clear e3
            have HUD : Hid (Up w 3 1 (.slice ob' on' oc') on' (ivals xs) wr.drew) := Lib.hid (Up.over HU.out (Below.refl _ _).drew)
            have HSW := HSY.out _ HUD.out.2
            obtain ⟨wd, hwd⟩ : ∃ wd, wr.drew = wd := ⟨_, rfl⟩
            rw [hwd] at HUD HSW
            refine region_anyT (S := fun w' => w'.cell? ⟨g, o + k * 3 + 2, none⟩ = some (.slice (some ⟨p, q, none⟩) an ac) ∧ w'.cell? ⟨p, q + j * 2, none⟩ = some (.int .i64 x.1) ∧ w'.cell? ⟨p, q + j * 2 + 1, none⟩ = some (.slice ia im ic)) 23 (by kernel_rfl) ?_
            rw [hwd]
            refine anyT_take 0 [11, 21, 22, 23] (v := ?_) rfl (by kernel_rfl) (fun _ _ _ h => h) (Or.inl ⟨by kernel_rfl, ?_⟩) HSW ?_
            rotate_left
            · (intro w hSw; obtain ⟨hs0, hs1, hs2⟩ := hSw; go_simp; (try with_reducible rfl))
            (try simp only [Act.put]); (try simp only [List.setIfInBounds_toArray]); (try simp only [List.set_cons_succ]); (try simp only [List.set_cons_zero])
            refine anyT_take 1 [3, 4, 5, 7, 8, 9, 10, 11, 21, 22, 23] (v := ?_) rfl (by kernel_rfl) (fun _ _ _ h => h) (Or.inl ⟨by kernel_rfl, ?_⟩) HSW ?_
            rotate_left
            · (intro w hSw; obtain ⟨hs0, hs1, hs2⟩ := hSw; go_simp; (try with_reducible rfl))
            (try simp only [Act.put]); (try simp only [List.setIfInBounds_toArray]); (try simp only [List.set_cons_succ]); (try simp only [List.set_cons_zero])
            refine anyT_take 2 [3, 4, 5, 7, 8, 9, 10, 11, 21, 22, 23] (v := ?_) rfl (by kernel_rfl) (fun _ _ _ h => h) (Or.inl ⟨by kernel_rfl, ?_⟩) HSW ?_
            rotate_left
            · (intro w hSw; obtain ⟨hs0, hs1, hs2⟩ := hSw; go_simp; (try with_reducible rfl))
            (try simp only [Act.put]); (try simp only [List.setIfInBounds_toArray]); (try simp only [List.set_cons_succ]); (try simp only [List.set_cons_zero])
            refine anyT_take 3 [4, 5, 7, 8, 9, 10, 11, 21, 22, 23] (v := ?_) rfl (by kernel_rfl) (fun _ _ _ h => h) (Or.inl ⟨by kernel_rfl, ?_⟩) HSW ?_
            rotate_left
            · (intro w hSw; obtain ⟨hs0, hs1, hs2⟩ := hSw; go_simp; (try with_reducible rfl))
            (try simp only [Act.put]); (try simp only [List.setIfInBounds_toArray]); (try simp only [List.set_cons_succ]); (try simp only [List.set_cons_zero])
            refine anyT_take 4 [5, 7, 8, 9, 10, 11, 21, 22, 23] (v := ?_) rfl (by kernel_rfl) (fun _ _ _ h => h) (Or.inl ⟨by kernel_rfl, ?_⟩) HSW ?_
            rotate_left
            · (intro w hSw; obtain ⟨hs0, hs1, hs2⟩ := hSw; go_simp; (try with_reducible rfl))
            (try simp only [Act.put]); (try simp only [List.setIfInBounds_toArray]); (try simp only [List.set_cons_succ]); (try simp only [List.set_cons_zero])
            refine anyT_take 5 [7, 8, 9, 10, 11, 21, 22, 23] (v := ?_) rfl (by kernel_rfl) (fun _ _ _ h => h) (Or.inl ⟨by kernel_rfl, ?_⟩) HSW ?_
            rotate_left
            · (intro w hSw; obtain ⟨hs0, hs1, hs2⟩ := hSw; go_simp; (try with_reducible rfl))
            (try simp only [Act.put]); (try simp only [List.setIfInBounds_toArray]); (try simp only [List.set_cons_succ]); (try simp only [List.set_cons_zero])
            refine anyT_take 6 [7, 8, 9, 10, 11, 21, 22, 23] (v := ?_) rfl (by kernel_rfl) (fun _ _ _ h => h) (Or.inl ⟨by kernel_rfl, ?_⟩) HSW ?_
            rotate_left
            · (intro w hSw; obtain ⟨hs0, hs1, hs2⟩ := hSw; go_simp; (try with_reducible rfl))
            (try simp only [Act.put]); (try simp only [List.setIfInBounds_toArray]); (try simp only [List.set_cons_succ]); (try simp only [List.set_cons_zero])
            refine anyT_take 7 [8, 9, 10, 11, 21, 22, 23] (v := ?_) rfl (by kernel_rfl) (fun _ _ _ h => h) (Or.inl ⟨by kernel_rfl, ?_⟩) HSW ?_
            rotate_left
            · (intro w hSw; obtain ⟨hs0, hs1, hs2⟩ := hSw; go_simp; (try with_reducible rfl))
            (try simp only [Act.put]); (try simp only [List.setIfInBounds_toArray]); (try simp only [List.set_cons_succ]); (try simp only [List.set_cons_zero])
            refine anyT_take 8 [9, 10, 11, 21, 22, 23] (v := ?_) rfl (by kernel_rfl) (fun _ _ _ h => h) (Or.inl ⟨by kernel_rfl, ?_⟩) HSW ?_
            rotate_left
            · (intro w hSw; obtain ⟨hs0, hs1, hs2⟩ := hSw; go_simp; (try with_reducible rfl))
            (try simp only [Act.put]); (try simp only [List.setIfInBounds_toArray]); (try simp only [List.set_cons_succ]); (try simp only [List.set_cons_zero])
            refine anyT_take 9 [10, 11, 21, 22, 23] (v := ?_) rfl (by kernel_rfl) (fun _ _ _ h => h) (Or.inl ⟨by kernel_rfl, ?_⟩) HSW ?_
            rotate_left
            · (intro w hSw; obtain ⟨hs0, hs1, hs2⟩ := hSw; go_simp; (try with_reducible rfl))
            (try simp only [Act.put]); (try simp only [List.setIfInBounds_toArray]); (try simp only [List.set_cons_succ]); (try simp only [List.set_cons_zero])
            refine anyT_take 12 [14, 15, 16, 18, 19, 20, 21, 22, 23] (v := ?_) rfl (by kernel_rfl) (fun _ _ _ h => h) (Or.inl ⟨by kernel_rfl, ?_⟩) HSW ?_
            rotate_left
            · (intro w hSw; obtain ⟨hs0, hs1, hs2⟩ := hSw; go_simp; (try with_reducible rfl))
            (try simp only [Act.put]); (try simp only [List.setIfInBounds_toArray]); (try simp only [List.set_cons_succ]); (try simp only [List.set_cons_zero])
            refine anyT_take 13 [14, 15, 16, 18, 19, 20, 21, 22, 23] (v := ?_) rfl (by kernel_rfl) (fun _ _ _ h => h) (Or.inl ⟨by kernel_rfl, ?_⟩) HSW ?_
            rotate_left
            · (intro w hSw; obtain ⟨hs0, hs1, hs2⟩ := hSw; go_simp; (try with_reducible rfl))
            (try simp only [Act.put]); (try simp only [List.setIfInBounds_toArray]); (try simp only [List.set_cons_succ]); (try simp only [List.set_cons_zero])
            refine anyT_take 14 [15, 16, 18, 19, 20, 21, 22, 23] (v := ?_) rfl (by kernel_rfl) (fun _ _ _ h => h) (Or.inl ⟨by kernel_rfl, ?_⟩) HSW ?_
            rotate_left
            · (intro w hSw; obtain ⟨hs0, hs1, hs2⟩ := hSw; go_simp; (try with_reducible rfl))
            (try simp only [Act.put]); (try simp only [List.setIfInBounds_toArray]); (try simp only [List.set_cons_succ]); (try simp only [List.set_cons_zero])
            refine anyT_take 15 [16, 18, 19, 20, 21, 22, 23] (v := ?_) rfl (by kernel_rfl) (fun _ _ _ h => h) (Or.inl ⟨by kernel_rfl, ?_⟩) HSW ?_
            rotate_left
            · (intro w hSw; obtain ⟨hs0, hs1, hs2⟩ := hSw; go_simp; (try with_reducible rfl))
            (try simp only [Act.put]); (try simp only [List.setIfInBounds_toArray]); (try simp only [List.set_cons_succ]); (try simp only [List.set_cons_zero])
            refine anyT_take 16 [18, 19, 20, 21, 22, 23] (v := ?_) rfl (by kernel_rfl) (fun _ _ _ h => h) (Or.inl ⟨by kernel_rfl, ?_⟩) HSW ?_
            rotate_left
            · (intro w hSw; obtain ⟨hs0, hs1, hs2⟩ := hSw; go_simp; (try with_reducible rfl))
            (try simp only [Act.put]); (try simp only [List.setIfInBounds_toArray]); (try simp only [List.set_cons_succ]); (try simp only [List.set_cons_zero])
            refine anyT_take 17 [18, 19, 20, 21, 22, 23] (v := ?_) rfl (by kernel_rfl) (fun _ _ _ h => h) (Or.inl ⟨by kernel_rfl, ?_⟩) HSW ?_
            rotate_left
            · (intro w hSw; obtain ⟨hs0, hs1, hs2⟩ := hSw; go_simp; (try with_reducible rfl))
            (try simp only [Act.put]); (try simp only [List.setIfInBounds_toArray]); (try simp only [List.set_cons_succ]); (try simp only [List.set_cons_zero])
            refine anyT_take 18 [19, 20, 21, 22, 23] (v := ?_) rfl (by kernel_rfl) (fun _ _ _ h => h) (Or.inl ⟨by kernel_rfl, ?_⟩) HSW ?_
            rotate_left
            · (intro w hSw; obtain ⟨hs0, hs1, hs2⟩ := hSw; go_simp; (try with_reducible rfl))
            (try simp only [Act.put]); (try simp only [List.setIfInBounds_toArray]); (try simp only [List.set_cons_succ]); (try simp only [List.set_cons_zero])
            refine anyT_take 19 [20, 21, 22, 23] (v := ?_) rfl (by kernel_rfl) (fun _ _ _ h => h) (Or.inl ⟨by kernel_rfl, ?_⟩) HSW ?_
            rotate_left
            · (intro w hSw; obtain ⟨hs0, hs1, hs2⟩ := hSw; go_simp; (try with_reducible rfl))
            (try simp only [Act.put]); (try simp only [List.setIfInBounds_toArray]); (try simp only [List.set_cons_succ]); (try simp only [List.set_cons_zero])
            refine anyT_take 20 [21, 22, 23] (v := ?_) rfl (by kernel_rfl) (fun _ _ _ h => h) (Or.inl ⟨by kernel_rfl, ?_⟩) HSW ?_
            rotate_left
            · (intro w hSw; obtain ⟨hs0, hs1, hs2⟩ := hSw; go_simp; (try with_reducible rfl))
            (try simp only [Act.put]); (try simp only [List.setIfInBounds_toArray]); (try simp only [List.set_cons_succ]); (try simp only [List.set_cons_zero])
            refine anyT_step 10 (by kernel_rfl) rfl (fun K hK => ?_)
            go_simp
            have HU1 := Lib.hid (Up.alloc HUD.out (.cells #[.int .i64 x.1] 3))
            have HSRC := Lib.hid (src_one wd (.int .i64 x.1) 3)
            have HSW := HSY.out _ HU1.out.2
            refine hK.out _ _ (fun _ => HSW) ?_
            clear hK K
            (try simp only [Act.put]); (try simp only [List.setIfInBounds_toArray]); (try simp only [List.set_cons_succ]); (try simp only [List.set_cons_zero])
            refine anyT_step 11 (by kernel_rfl) rfl (fun K hK => ?_)
            refine step_ex rfl (.tmp 37) (.tmp 47) 54 rfl _ _ _ rfl rfl (ints_ex (W := w) (xs := xs) (ys := [x.1]) HU1.out HSRC.out (by omega) (by omega)) ?_
            intro b4 n4 cap4 w4 hp4
            have HN4 := Lib.hid hp4.1
            have HU4 := Lib.hid hp4.2
            have HB4 := Lib.hid hp4.2.2
            have HSW := HSY.out _ hp4.2.2
            clear hp4
            refine hK.out _ _ (fun _ => HSW) ?_
            clear hK K
            (try simp only [Act.put]); (try simp only [List.setIfInBounds_toArray]); (try simp only [List.set_cons_succ]); (try simp only [List.set_cons_zero])
            refine anyT_step 21 (by kernel_rfl) rfl (fun K hK => ?_)
            go_simp
            go_at_call 31
            (with_reducible refine (HCL.out _ HB4.out).mono ?_)
            rintro e w5 ⟨va, vn, vc, rfl, hvn, hvu⟩
            have HV := Lib.hid hvu
            have HVN := Lib.hid hvn
            have HU5 := Lib.hid (Up.over HU4.out hvu.2)
            have HSW := HSY.out _ HU5.out.2
            clear hvu hvn
            try go_wp2_with fail
            refine hK.out _ _ (fun _ => HSW) ?_
            clear hK K
            (try simp only [Act.put]); (try simp only [List.setIfInBounds_toArray]); (try simp only [List.set_cons_succ]); (try simp only [List.set_cons_zero])
            refine anyT_step 22 (by kernel_rfl) rfl (fun K hK => ?_)
            refine step_ex rfl (.tmp 48) (.tmp 58) 54 rfl _ _ _ rfl rfl (ints_ex (W := w) (xs := xs ++ [x.1]) (ys := F x.2) HU5.out (row_src HV.out.1) (by have := HN4.out; omega) (by have := HN4.out; have := HVN.out; omega)) ?_
            intro b6 n6 cap6 w6 hp6
            have HN6 := Lib.hid hp6.1
            have HU6 := Lib.hid hp6.2
            have HSW := HSY.out _ hp6.2.2
            clear hp6
            refine hK.out _ _ (fun _ => HSW) ?_
            clear hK K
            (try simp only [Act.put]); (try simp only [List.setIfInBounds_toArray]); (try simp only [List.set_cons_succ]); (try simp only [List.set_cons_zero])
            refine anyT_step 23 (by kernel_rfl) rfl (fun K hK => ?_)
            go_simp
            refine hK.out _ _ (fun h => absurd rfl h) ?_
            clear hK K
            (try simp only [Act.put]); (try simp only [List.setIfInBounds_toArray]); (try simp only [List.set_cons_succ]); (try simp only [List.set_cons_zero])
            refine anyT_done (by kernel_rfl) ?_ _
            go_wp2
            go_roundw
            case rel => exact ⟨j + 1, some ⟨b6, 0, none⟩, n6, cap6, by go_num, hltj, rfl, by rw [HXJ.out, HN6.out, HN4.out, HVN.out, HON'.out]; simp; omega, by rw [HXJ.out]; exact HU6.out⟩
            case measure => simp [intOf]; omega
          · go_wp2
            go_roundw
            case rel => exact ⟨k + 1, ob', on', oc', by go_num, hlt, rfl, by
              rw [fm_take _ HIT.out, HFL.out, HXS0.out, HON'.out, List.take_of_length_le (by rw [← HAN.out]; omega)], by
              have h := HU.out
              rw [List.take_of_length_le (by rw [← HAN.out]; omega)] at h
              rw [fm_take _ HIT.out, HFL.out, HXS0.out]
              exact h⟩
            case measure => simp [intOf]; omega
    · go_wp2
      go_ret
      exact ⟨ob, on, oc, rfl, by rw [HON.out, List.take_of_length_le (by have := HN.out; omega)], by have h := HU0.out; rw [List.take_of_length_le (by have := HN.out; omega)] at h; exact h⟩

theorem rflat_any : ∀ (d : Nat) (l : List Itm) (v : Value) (w : World), ItsAt d l v w → (flatF d l).length ≤ 17592186044416 → Calls Tryd.prog 31 #[v] w (FlatPost w (flatF d l))
  | 0, l, v, w, h, hb => by
    have e : l.flatMap (flatI fun _ => []) = flatF 0 l := flat_zero (its_fits 0 l v w h) _
    rw [← e] at hb ⊢
    exact rflat_step (fun _ _ _ h => h.elim) (fun _ _ _ _ h _ => h.elim) (fun _ _ _ h => h.elim) h hb
  | d + 1, l, v, w, h, hb => rflat_step (itsAt_form d) (itsAt_over d) (fun l v w h hl => rflat_any d l v w h hl) h hb

end Go.Proofs.YtlnlpahmfpjjdaaDoor

/-
  light of the law: are items few, and not too deep.
-/
namespace Go.Proofs.YtlnlpahmfpjjdaaDoor
open Go.RowKit

def lightI (G : List Itm → Nat → Bool) (dp : Nat) (it : Itm) : Bool := decide (it.arms.length ≤ 5) && it.arms.all fun a => G a.2 (dp + 1)
def lightL (G : List Itm → Nat → Bool) (l : List Itm) (dp : Nat) : Bool := decide (l.length ≤ 10) && decide (dp ≤ 6) && l.all (lightI G dp)
def lightF : Nat → List Itm → Nat → Bool
  | 0 => lightL fun _ _ => true
  | d + 1 => lightL (lightF d)

theorem all_not {α : Type} {f : α → Bool} {l : List α} {k : Nat} {a : α} (h : l[k]? = some a) (hf : f a = false) : l.all f = false := by
  rw [Bool.eq_false_iff]
  intro ha
  have := List.all_eq_true.1 ha a (List.mem_of_getElem? h)
  rw [hf] at this
  cases this
theorem all_yes {α : Type} {f : α → Bool} {l : List α} (h : ∀ (k : Nat) (a : α), l[k]? = some a → f a = true) : l.all f = true := by
  rw [List.all_eq_true]
  intro a ha
  obtain ⟨k, hk, rfl⟩ := List.getElem_of_mem ha
  exact h k _ (List.getElem?_eq_getElem hk)

set_option maxRecDepth 100000 in
set_option maxHeartbeats 3200000 in
theorem light_step {R : RelI} {G : List Itm → Nat → Bool} (hF : Formed R) (hR : ∀ l v w dp, R l v w → dp ≤ 7 → Calls Tryd.prog 34 #[v, .int .i64 ((dp : Nat) : Int)] w (BoolPost (G l dp) w)) {l : List Itm} {v : Value} {w : World} {dp : Nat} (h : ItsOf R l v w) (hdp : dp ≤ 7) :
    Calls Tryd.prog 34 #[v, .int .i64 (dp : Int)] w (BoolPost (lightL G l dp) w) := by
  obtain ⟨a, n, cap, rfl, hn, hc1, hc2⟩ := h.form
  have HX := Lib.hid h
  have HN := Lib.hid hn
  have HR := Lib.hid hR
  have HF := Lib.hid hF
  unfold maxLen at hc2
  obtain ⟨Z, hZ⟩ : ∃ Z, lightL G l dp = Z := ⟨_, rfl⟩
  have HZ := Lib.hid hZ
  rw [hZ]
  clear h hn hR hF hZ
  by_cases hl : n ≤ 10
  · by_cases hd : dp ≤ 6
    · have HZ2 : Hid (l.all (lightI G dp) = Z) := Lib.hid (by
        rw [← HZ.out]
        unfold lightL
        have := HN.out
        rw [decide_eq_true (by omega), decide_eq_true hd]
        rfl)
      go_enter Tryd.func34, Tryd.ntmps34
      go_wp2
      go_loop [5] (fun i => ∃ k : Nat, i = .int .i64 (k : Int) ∧ k ≤ n ∧ ∀ j it, j < k → l[j]? = some it → lightI G dp it = true) (fun i => n - (intOf i).toNat)
      case atStart => exact ⟨0, rfl, Nat.zero_le _, fun j it hj => by omega⟩
      case round =>
        obtain ⟨k, rfl, hk, hall⟩ := hrel
        have HALL := Lib.hid hall
        clear hall
        by_cases hlt : k < n
        · obtain ⟨it, hit⟩ : ∃ it, l[k]? = some it := ⟨_, List.getElem?_eq_getElem (by rw [← HN.out]; exact hlt)⟩
          obtain ⟨g, o, aa, an, ac, rfl, hg, han, hac1, hac2, ⟨c0, c1, c2⟩, hr⟩ := HX.out.get hit
          have HIT := Lib.hid hit
          have HAN := Lib.hid han
          have HAR := Lib.hid hr
          unfold maxLen at hac2
          clear hit han hr c0 c1
          by_cases h5 : an ≤ 5
          · go_wp2
            go_loop [6] (fun i => ∃ j : Nat, i = .int .i64 (j : Int) ∧ j ≤ an ∧ ∀ q x, q < j → it.arms[q]? = some x → G x.2 (dp + 1) = true) (fun i => an - (intOf i).toNat)
            case atStart => exact ⟨0, rfl, Nat.zero_le _, fun q x hq => by omega⟩
            case round =>
              obtain ⟨j, rfl, hj, hin⟩ := hrel
              have HIN := Lib.hid hin
              clear hin
              by_cases hltj : j < an
              · obtain ⟨x, hx⟩ : ∃ x, it.arms[j]? = some x := ⟨_, List.getElem?_eq_getElem (by rw [← HAN.out]; exact hltj)⟩
                obtain ⟨p, q, ia, im, ic, rfl, hp, ⟨d0, d1⟩, hr2⟩ := HAR.out.get HF.out hx
                have HCL : Hid (Calls Tryd.prog 34 #[.slice ia im ic, .int .i64 ((dp : Int) + 1)] w (BoolPost (G x.2 (dp + 1)) w)) := Lib.hid (HR.out _ _ _ (dp + 1) hr2 (by omega))
                have HXT := Lib.hid hx
                clear hx hr2 d0
                by_cases hg1 : G x.2 (dp + 1) = true
                · rw [hg1] at HCL
                  have HG1 := Lib.hid hg1
                  clear hg1
                  go_wp2_with (go_at_call 34; (with_reducible refine HCL.out.mono ?_); rintro e w' ⟨rfl, rfl⟩)
                  go_round
                  case rel => exact ⟨j + 1, by go_num, hltj, fun r y hr hy => by
                    rcases Nat.lt_or_ge r j with h | h
                    · exact HIN.out r y h hy
                    · obtain rfl : r = j := by omega
                      rw [HXT.out] at hy
                      cases hy
                      exact HG1.out⟩
                  case measure => simp [intOf]; omega
                · have hg0 : G x.2 (dp + 1) = false := by simpa using hg1
                  rw [hg0] at HCL
                  have HZF : Hid (false = Z) := Lib.hid (by
                    rw [← HZ2.out]
                    refine (all_not HIT.out ?_).symm
                    unfold lightI
                    rw [all_not (f := fun a : Int × List Itm => G a.2 (dp + 1)) HXT.out hg0, Bool.and_false])
                  clear hg1 hg0
                  go_wp2_with (go_at_call 34; (with_reducible refine HCL.out.mono ?_); rintro e w' ⟨rfl, rfl⟩)
                  go_ret
                  exact ⟨ret_bool HZF.out, rfl⟩
              · have HYI : Hid (lightI G dp it = true) := Lib.hid (by
                  unfold lightI
                  rw [decide_eq_true (by have := HAN.out; omega), Bool.true_and]
                  exact all_yes fun q x hx => HIN.out q x (by have := (List.getElem?_eq_some_iff.1 hx).1; have := HAN.out; omega) hx)
                go_wp2
                go_round
                case rel => exact ⟨k + 1, by go_num, hlt, fun r y hr hy => by
                  rcases Nat.lt_or_ge r k with h | h
                  · exact HALL.out r y h hy
                  · obtain rfl : r = k := by omega
                    rw [HIT.out] at hy
                    cases hy
                    exact HYI.out⟩
                case measure => simp [intOf]; omega
          · have HZF : Hid (false = Z) := Lib.hid (by
              rw [← HZ2.out]
              refine (all_not HIT.out ?_).symm
              unfold lightI
              rw [decide_eq_false (by have := HAN.out; omega), Bool.false_and])
            go_wp2
            go_ret
            exact ⟨ret_bool HZF.out, rfl⟩
        · have HZT : Hid (true = Z) := Lib.hid (by
            rw [← HZ2.out]
            exact (all_yes fun q x hx => HALL.out q x (by have := (List.getElem?_eq_some_iff.1 hx).1; have := HN.out; omega) hx).symm)
          go_wp2
          go_ret
          exact ⟨ret_bool HZT.out, rfl⟩
    · have HZF : Hid (false = Z) := Lib.hid (by
        rw [← HZ.out]
        unfold lightL
        rw [decide_eq_false hd]
        simp)
      go_enter Tryd.func34, Tryd.ntmps34
      go_wp2
      go_ret
      exact ⟨ret_bool HZF.out, rfl⟩
  · have HZF : Hid (false = Z) := Lib.hid (by
      rw [← HZ.out]
      unfold lightL
      rw [decide_eq_false (by have := HN.out; omega)]
      rfl)
    go_enter Tryd.func34, Tryd.ntmps34
    go_wp2
    go_ret
    exact ⟨ret_bool HZF.out, rfl⟩

theorem light_any : ∀ (d : Nat) (l : List Itm) (v : Value) (w : World) (dp : Nat), ItsAt d l v w → dp ≤ 7 → Calls Tryd.prog 34 #[v, .int .i64 (dp : Int)] w (BoolPost (lightF d l dp) w)
  | 0, _, _, _, _, h, hd => light_step (fun _ _ _ h => h.elim) (fun _ _ _ _ h _ => h.elim) h hd
  | d + 1, _, _, _, _, h, hd => light_step (itsAt_form d) (fun l v w dp h hd => light_any d l v w dp h hd) h hd

end Go.Proofs.YtlnlpahmfpjjdaaDoor

/-
  How many lines light items have.
-/
namespace Go.Proofs.YtlnlpahmfpjjdaaDoor
open Go.RowKit

def lightN : Nat → Nat
  | 0 => 0
  | m + 1 => 50 * (1 + lightN m)
theorem len_flat {α β : Type} {f : α → List β} {m : Nat} : ∀ {l : List α}, (∀ a ∈ l, (f a).length ≤ m) → (l.flatMap f).length ≤ l.length * m
  | [], _ => by simp
  | a :: r, h => by
    rw [List.flatMap_cons, List.length_append, List.length_cons, Nat.add_mul, Nat.one_mul]
    have h1 := h a List.mem_cons_self
    have h2 := len_flat (l := r) fun b hb => h b (List.mem_cons_of_mem _ hb)
    omega
theorem lightL_is {G : List Itm → Nat → Bool} {l : List Itm} {dp : Nat} (h : lightL G l dp = true) : l.length ≤ 10 ∧ dp ≤ 6 ∧ ∀ it ∈ l, it.arms.length ≤ 5 ∧ ∀ x ∈ it.arms, G x.2 (dp + 1) = true := by
  unfold lightL at h
  simp only [Bool.and_eq_true, decide_eq_true_eq, List.all_eq_true] at h
  refine ⟨h.1.1, h.1.2, fun it hit => ?_⟩
  have := h.2 it hit
  unfold lightI at this
  simpa only [Bool.and_eq_true, decide_eq_true_eq, List.all_eq_true] using this

theorem light_len : ∀ (d m : Nat) (l : List Itm) (dp : Nat), dp + m = 7 → lightF d l dp = true → (flatF d l).length ≤ lightN m
  | 0, m, l, dp, hm, h => by
    obtain ⟨h1, h2, -⟩ := lightL_is (G := fun _ _ => true) h
    obtain ⟨m, rfl⟩ : ∃ m', m = m' + 1 := ⟨m - 1, by omega⟩
    show (l.map Itm.line).length ≤ 50 * (1 + lightN m)
    rw [List.length_map]
    omega
  | d + 1, m, l, dp, hm, h => by
    obtain ⟨h1, h2, h3⟩ := lightL_is (G := lightF d) h
    obtain ⟨m, rfl⟩ : ∃ m', m = m' + 1 := ⟨m - 1, by omega⟩
    show (l.flatMap (flatI (flatF d))).length ≤ 50 * (1 + lightN m)
    have hit : ∀ it ∈ l, (flatI (flatF d) it).length ≤ 5 * (1 + lightN m) := fun it hit => by
      obtain ⟨h4, h5⟩ := h3 it hit
      unfold flatI
      split
      · simp
        omega
      · refine Nat.le_trans (len_flat (m := 1 + lightN m) fun x hx => ?_) (Nat.mul_le_mul_right _ h4)
        rw [List.length_cons]
        have := light_len d m x.2 (dp + 1) (by omega) (h5 x hx)
        omega
    refine Nat.le_trans (len_flat hit) ?_
    have := Nat.mul_le_mul_right (5 * (1 + lightN m)) h1
    omega
theorem light_big {d : Nat} {l : List Itm} (h : lightF d l 0 = true) : (flatF d l).length ≤ 17592186044416 := by
  refine Nat.le_trans (light_len d 7 l 0 rfl h) ?_
  decide
theorem light_small : ∀ (d : Nat) (l : List Itm) (dp : Nat), lightF d l dp = true → SmallF d l
  | 0, l, dp, h => by
    have := (lightL_is (G := fun _ _ => true) h).1
    show l.length ≤ 500000
    omega
  | d + 1, l, dp, h => by
    obtain ⟨h1, -, h3⟩ := lightL_is (G := lightF d) h
    refine ⟨by omega, fun it hit => ⟨by have := (h3 it hit).1; omega, fun x hx => light_small d x.2 (dp + 1) ((h3 it hit).2 x hx)⟩⟩

end Go.Proofs.YtlnlpahmfpjjdaaDoor
