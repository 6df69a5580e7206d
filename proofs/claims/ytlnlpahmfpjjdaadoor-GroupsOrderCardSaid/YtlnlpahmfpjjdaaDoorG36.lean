/-
  Texts of the proof, put together: GcEachF, GcEachD.
-/
import Derived.Test.YtlnlpahmfpjjdaaDoorG35
import Derived.Test.YtlnlpahmfpjjdaaDoorG07
import Derived.Deep.LoopGhost
import Derived.IntWalk

/-
  The project's walk over items, with Flat's closure.
-/
namespace Go.Proofs.YtlnlpahmfpjjdaaDoor
open Go.RowKit

def EachFR (W0 : World) (d : Nat) (All : List (Int × Nat)) (Inv : List (Int × Nat) → World → Prop) (gk : Nat) (sv : Value) (wr : World) : Prop :=
  ∃ S T ab n c e, sv = .slice (some ⟨ab, 0, none⟩) n c ∧ Stk W0 ab n c S wr ∧ FsAt W0 e S ∧ e + S.length = d + 1 ∧ T ++ rem S = All ∧ Inv T wr ∧ Below W0.heap.size W0 wr ∧ mu8 S ≤ gk
def EachFP (W0 : World) (I : World → Prop) (e : Ending) (w' : World) : Prop := e = .returned (.tuple #[]) ∧ I w' ∧ Below W0.heap.size W0 w'

set_option maxRecDepth 100000 in
set_option maxHeartbeats 12800000 in
theorem eachF_any {W0 W : World} {p : Addr} {Inv : List (Int × Nat) → World → Prop} (OK : Teller W0 56 p Inv) (hbel : Below W0.heap.size W0 W) {d : Nat} {L : List Itm} {v : Value} (h : ItsAt d L v W0) (hd : d ≤ 800000) (hI : Inv [] W) (hlen : (evIts 0 L).length ≤ 17592186044416) :
    Calls Tryd.prog 55 #[v, .func (.func 56) #[] #[.pointer (some p)]] W (EachFP W0 (Inv (evIts 0 L))) := by
  obtain ⟨All, hAll⟩ : ∃ All, evIts 0 L = All := ⟨_, rfl⟩
  rw [hAll] at hlen ⊢
  obtain ⟨va, vn, vc, rfl, -⟩ := itsAt_form d _ _ _ h
  have hA := heap_alloc_new W (.cells #[.slice va vn vc, .slice none 0 0] 127)
  have HST : Hid (EachFR W0 d All Inv (mu8 [⟨L, .slice va vn vc, [], .slice none 0 0⟩]) (.slice (some ⟨W.heap.size, 0, none⟩) 1 1) (W.alloc (.cells #[.slice va vn vc, .slice none 0 0] 127))) := Lib.hid (by
    refine ⟨[⟨L, .slice va vn vc, [], .slice none 0 0⟩], [], W.heap.size, 1, 1, d, rfl, ⟨rfl, rfl, .inr ⟨W.heap.size, 1, _, rfl, hbel.size, hA, Nat.le_refl _, by unfold maxLen; omega, rfl, rfl⟩⟩, ⟨⟨h, arms_nil _ _⟩, trivial⟩, rfl, ?_, OK.stay _ _ _ hI (stay_below ((Below.refl _ _).alloc (Nat.le_refl _) _)), hbel.alloc hbel.size _, Nat.le_refl _⟩
    simp only [rem, evArms, List.append_nil, List.nil_append]
    exact hAll)
  have HOK := Lib.hid OK
  have HLEN := Lib.hid hlen
  have HD := Lib.hid hd
  clear h hI hlen hA hbel hAll OK hd
  go_enter Tryd.func55, Tryd.ntmps55
  go_wp2
  go_loopg [4] (mu8 [⟨L, .slice va vn vc, [], .slice none 0 0⟩]) (fun gk sv wr => EachFR W0 d All Inv gk sv wr)
  case atStart => exact HST.out
  case round =>
    obtain ⟨S, T, ab, n, c, e, rfl, hS, hF, hes, hT, hI, hB, hmu⟩ := hrel
    have HI := Lib.hid hI
    have HB := Lib.hid hB
    have HS := Lib.hid hS
    clear hI hB
    cases S with
    | nil =>
      obtain rfl : n = 0 := hS.1
      have HT : Hid (T = All) := Lib.hid (by simpa [rem] using hT)
      clear hS hF hes hT hmu HST
      go_wp2
      go_end0
      exact ⟨rfl, HT.out ▸ HI.out, HB.out⟩
    | cons f r =>
      obtain ⟨Lf, iv, Af, av⟩ := f
      obtain ⟨t0, t1, hab, hnc, hcm, hfz, hn⟩ := hS.top
      obtain ⟨⟨hF1, hF2⟩, hF3⟩ := hF
      simp only at t0 t1 hF1 hF2
      have HMU := Lib.hid hmu
      have HTT := Lib.hid hT
      have HF3 := Lib.hid hF3
      have HES := Lib.hid hes
      have hm8 : r.length ≤ 800000 := by have h1 := HES.out; have h2 := HD.out; simp only [List.length_cons] at h1; omega
      obtain ⟨m, hm⟩ : ∃ m, r.length = m := ⟨_, rfl⟩
      have HM := Lib.hid hm
      rw [hm] at t0 t1 hn hm8
      have f0 := hfz (m * 2)
      have f1 := hfz (m * 2 + 1)
      unfold maxLen at hcm
      subst hn
      have HF1 := Lib.hid hF1
      have HF2 := Lib.hid hF2
      clear hS hT hmu hF3 hm hfz hes
      cases Lf with
      | cons it L' =>
        obtain ⟨a', n1, c1, rfl, -⟩ := itsAt_form e _ _ _ hF1
        obtain ⟨g, o, n', cap', aa, an, ac, rfl, rfl, rfl, hn', hcap', hg, han, hac1, hac2, ⟨q0, q1, q2⟩, htail, hcond⟩ := hF1.head
        obtain ⟨o', ho', hs1⟩ := slice1_its g o n' cap' hn' hcap'
        have HTL := Lib.hid (htail o' ho')
        have HCD := Lib.hid hcond
        have HAN := Lib.hid han
        have c0 := bcell HB.out q0 hg
        have c1 := bcell HB.out q1 hg
        have c2 := bcell HB.out q2 hg
        have hgw : g < wr.heap.size := Nat.lt_of_lt_of_le hg HB.out.size
        unfold maxLen at hac2 hcap'
        have HBA : Hid (Below (wr.setCell ⟨ab, m * 2, none⟩ (.slice (some ⟨g, o', none⟩) n' cap')).heap.size (wr.setCell ⟨ab, m * 2, none⟩ (.slice (some ⟨g, o', none⟩) n' cap')) ((wr.setCell ⟨ab, m * 2, none⟩ (.slice (some ⟨g, o', none⟩) n' cap')).alloc (.cells #[.int .i64 it.k, .int .i64 it.line, .slice aa an ac] 66))) := Lib.hid ((Below.refl _ _).alloc (Nat.le_refl _) _)
        obtain ⟨w2, hw2⟩ : ∃ w2, ((wr.setCell ⟨ab, m * 2, none⟩ (.slice (some ⟨g, o', none⟩) n' cap')).alloc (.cells #[.int .i64 it.k, .int .i64 it.line, .slice aa an ac] 66)) = w2 := ⟨_, rfl⟩
        have HW2 := Lib.hid hw2
        have HS2 : Hid (Stk W0 ab (m + 1) c (⟨L', .slice (some ⟨g, o', none⟩) n' cap', Af, av⟩ :: r) w2) := Lib.hid (by
          have := HS.out.set0 (.slice (some ⟨g, o', none⟩) n' cap') L'
          rw [HM.out] at this
          have h2 := this.over HBA.out
          rw [HW2.out] at h2
          exact h2)
        have HY2 : Hid (StayR wr w2) := Lib.hid (by
          rw [← HW2.out]
          exact (HS.out.stay _ _).trans (stay_below HBA.out))
        have HB2 : Hid (Below W0.heap.size W0 w2) := Lib.hid (by
          rw [← HW2.out]
          exact below_up (HB.out.setCell HS.out.low _) HBA.out)
        have hX : w2.heap[wr.heap.size]? = some (.cells #[.int .i64 it.k, .int .i64 it.line, .slice aa an ac] 66 (0, 0)) := by
          have hA := heap_alloc_new (wr.setCell ⟨ab, m * 2, none⟩ (.slice (some ⟨g, o', none⟩) n' cap')) (.cells #[.int .i64 it.k, .int .i64 it.line, .slice aa an ac] 66)
          rw [show (wr.setCell ⟨ab, m * 2, none⟩ (.slice (some ⟨g, o', none⟩) n' cap')).heap.size = wr.heap.size from by simp [World.setCell], HW2.out] at hA
          exact hA
        have b1 : w2.cell? ⟨wr.heap.size, 1, none⟩ = some (.int .i64 it.line) := by rw [Lib.cell_of_heap hX]; rfl
        have b2 : w2.cell? ⟨wr.heap.size, 2, none⟩ = some (.slice aa an ac) := by rw [Lib.cell_of_heap hX]; rfl
        rw [← hw2] at b1 b2
        clear q0 q1 q2 htail hcond han hX hw2 hF1 hF2
        by_cases h0 : an = 0
        · subst h0
          have HNIL : Hid (it.arms = []) := Lib.hid (List.eq_nil_of_length_eq_zero HAN.out.symm)
          have HTE : Hid (T ++ [(it.line, m)] ++ rem (⟨L', .slice (some ⟨g, o', none⟩) n' cap', Af, av⟩ :: r) = All) := Lib.hid (by
            rw [List.append_assoc, List.singleton_append, ← HM.out, ← rem_leaf HNIL.out]
            exact HTT.out)
          have HC : Hid (Calls Tryd.prog 56 #[.int .i64 it.line, .int .i64 (m : Nat), .pointer (some p)] ((wr.setCell ⟨ab, m * 2, none⟩ (.slice (some ⟨g, o', none⟩) n' cap')).alloc (.cells #[.int .i64 it.k, .int .i64 it.line, .slice aa 0 ac] 66)) (TellP W0 w2 (Inv (T ++ [(it.line, m)])))) := Lib.hid (by
            rw [HW2.out]
            refine HOK.out.call T w2 it.line m (HOK.out.stay _ _ _ HI.out HY2.out) HB2.out ?_ (by omega)
            have h1 := congrArg List.length HTE.out
            rw [List.length_append, List.length_append] at h1
            have h2 := HLEN.out
            simp at h1
            omega)
          go_wp2_with (go_at_call 56; (with_reducible refine HC.out.mono ?_); rintro e3 w3 ⟨rfl, hi3, hk3, hb3⟩; have HI3 := Lib.hid hi3; have HK3 := Lib.hid hk3; have HB3 := Lib.hid hb3; clear hi3 hk3 hb3)
          go_roundg (mu8 (⟨L', .slice (some ⟨g, o', none⟩) n' cap', Af, av⟩ :: r))
          case measure => exact Nat.lt_of_lt_of_le mu_leaf HMU.out
          case rel => exact ⟨_, _, ab, m + 1, c, e, rfl, HS2.out.keep HK3.out, ⟨⟨HTL.out, HF2.out⟩, HF3.out⟩, HES.out, HTE.out, HI3.out, HB3.out, Nat.le_refl _⟩
        · have hne : it.arms ≠ [] := fun e => h0 (by rw [HAN.out, e]; rfl)
          obtain ⟨e', he', harms⟩ := HCD.out hne
          have HARM := Lib.hid harms
          have HE' := Lib.hid he'
          have HTE : Hid (T ++ rem (⟨[], .slice none 0 0, it.arms, .slice aa an ac⟩ :: ⟨L', .slice (some ⟨g, o', none⟩) n' cap', Af, av⟩ :: r) = All) := Lib.hid (by
            rw [← rem_cond hne]
            exact HTT.out)
          have hanI : (0 : Int) < (an : Int) := by omega
          have HX : Hid (∃ v' w', (Builtin.append_ #[128, 128] 128 #[.slice (some ⟨ab, 0, none⟩) (m + 1) c, .slice (some ⟨wr.heap.size + 1, 0, none⟩) 1 1]).run Tryd.prog (((wr.setCell ⟨ab, m * 2, none⟩ (.slice (some ⟨g, o', none⟩) n' cap')).alloc (.cells #[.int .i64 it.k, .int .i64 it.line, .slice aa an ac] 66)).alloc (.cells #[.slice none 0 0, .slice aa an ac] 127)) = .ok v' w' ∧ ∃ b n cap, v' = .slice (some ⟨b, 0, none⟩) n cap ∧ Pushed8 W0 (w2.alloc (.cells #[.slice none 0 0, .slice aa an ac] 127)) (⟨[], .slice none 0 0, it.arms, .slice aa an ac⟩ :: ⟨L', .slice (some ⟨g, o', none⟩) n' cap', Af, av⟩ :: r) b n cap w') := Lib.hid (by
            have hsz : w2.heap.size = wr.heap.size + 1 := by rw [← HW2.out]; simp [World.setCell]
            have hA := heap_alloc_new w2 (.cells #[.slice none 0 0, .slice aa an ac] 127)
            rw [hsz] at hA
            rw [HW2.out]
            refine as_value ((HS2.out.over ((Below.refl _ _).alloc (Nat.le_refl _) _)).push (HB2.out.alloc HB2.out.size _) _ (src_row hA rfl rfl) (fun u hu => ?_) (by rw [List.length_cons, HM.out]; omega))
            simp only [zcell, List.mem_cons, List.not_mem_nil, or_false] at hu
            rcases hu with rfl | rfl <;> rfl)
          clear hne h0 harms he'
          go_wp2_with (at_builtin; refine wpList_append_ex rfl (.tmp 49) (.tmp 53) 128 rfl _ HX.out ?_; rintro v' w3 ⟨b5, n5, c5, rfl, hs5, hy5, hb5⟩; have HS5 := Lib.hid hs5; have HY5 := Lib.hid hy5; have HB5 := Lib.hid hb5; clear hs5 hy5 hb5)
          go_roundg (mu8 (⟨[], .slice none 0 0, it.arms, .slice aa an ac⟩ :: ⟨L', .slice (some ⟨g, o', none⟩) n' cap', Af, av⟩ :: r))
          case measure => exact Nat.lt_of_lt_of_le mu_cond HMU.out
          case rel =>
            have hE := HE'.out
            subst hE
            refine ⟨_, T, b5, n5, c5, e', rfl, HS5.out, ⟨⟨⟨none, 0, rfl, Nat.le_refl _, Nat.zero_le _, fun k s h => by simp at h⟩ |> its_up (d := 0) (Nat.zero_le _), HARM.out⟩, ⟨HTL.out, HF2.out⟩, HF3.out⟩, by have := HES.out; simp only [List.length_cons] at this ⊢; omega, HTE.out, HOK.out.stay _ _ _ (HOK.out.stay _ _ _ HI.out HY2.out) ((stay_below ((Below.refl _ _).alloc (Nat.le_refl _) _)).trans HY5.out), HB5.out, Nat.le_refl _⟩
      | nil =>
        obtain ⟨ia, im, ic, rfl, him, -⟩ := itsAt_form e _ _ _ hF1
        obtain rfl : im = 0 := him
        cases Af with
        | cons x A' =>
          obtain ⟨a', n1, c1, rfl, -⟩ := hF2.form
          obtain ⟨g, o, n', cap', ja, jm, jc, rfl, rfl, rfl, hn', hcap', hg, hjm, hjc, ⟨d0, d1⟩, htail, hits⟩ := arms_head hF2
          obtain ⟨o', ho', hs1⟩ := slice1_arms g o n' cap' hn' hcap'
          have HTL := Lib.hid (htail o' ho')
          have HIT := Lib.hid hits
          have c0 := bcell HB.out d0 hg
          have c1 := bcell HB.out d1 hg
          have hgw : g < wr.heap.size := Nat.lt_of_lt_of_le hg HB.out.size
          unfold maxLen at hjc hcap'
          clear d0 d1 htail hits hF1 hF2
          go_wp2
          clear c0 c1
          obtain ⟨bx, hbx⟩ : ∃ bx, wr.heap.size = bx := ⟨_, rfl⟩
          have HBX := Lib.hid hbx
          obtain ⟨wd, hwd⟩ : ∃ wd, (wr.alloc (.cells #[.int .i64 x.1, .slice ja jm jc] 68)).drew = wd := ⟨_, rfl⟩
          have HBD : Hid (Below wr.heap.size wr wd) := Lib.hid (hwd ▸ ((Below.refl _ _).alloc (Nat.le_refl _) _).drew)
          have HXX : Hid (wd.heap[bx]? = some (.cells #[.int .i64 x.1, .slice ja jm jc] 68 (0, 0))) := Lib.hid (by rw [← hwd, ← hbx]; exact heap_alloc_new wr _)
          have HSD := Lib.hid (HS.out.over HBD.out)
          have HSW : wd.cell? ⟨bx, 1, none⟩ = some (.slice ja jm jc) ∧ wd.cell? ⟨ab, m * 2 + 1, none⟩ = some (.slice (some ⟨g, o, none⟩) (n' + 1) (cap' + 1)) := ⟨by rw [Lib.cell_of_heap HXX.out]; rfl, bcell HBD.out t1 hab⟩
          have t0d := bcell HBD.out t0 hab
          have f0d : wd.frozen? ⟨ab, m * 2, none⟩ = false := by have := HSD.out.top.2.2.2.2.2.1; exact this _
          have f1d : wd.frozen? ⟨ab, m * 2 + 1, none⟩ = false := by have := HSD.out.top.2.2.2.2.2.1; exact this _
          have t1d := HSW.2
          rw [hbx]
          clear hbx t0 t1 f0 f1
          refine region_anyT (S := fun w' => w'.cell? ⟨bx, 1, none⟩ = some (.slice ja jm jc) ∧ w'.cell? ⟨ab, m * 2 + 1, none⟩ = some (.slice (some ⟨g, o, none⟩) (n' + 1) (cap' + 1))) 10 (by kernel_rfl) ?_
          rw [hwd]
          refine anyT_take 0 [9, 10] (v := ?_) rfl (by kernel_rfl) (fun _ _ _ h => h) (Or.inl ⟨by kernel_rfl, ?_⟩) HSW ?_
          rotate_left
          · (intro w hSw; obtain ⟨hs0, hs1⟩ := hSw; go_simp; (try with_reducible rfl))
          (try simp only [Act.put]); (try simp only [List.setIfInBounds_toArray]); (try simp only [List.set_cons_succ]); (try simp only [List.set_cons_zero])
          refine anyT_take 1 [2, 8, 9, 10] (v := ?_) rfl (by kernel_rfl) (fun _ _ _ h => h) (Or.inl ⟨by kernel_rfl, ?_⟩) HSW ?_
          rotate_left
          · (intro w hSw; obtain ⟨hs0, hs1⟩ := hSw; go_simp; (try with_reducible rfl))
          (try simp only [Act.put]); (try simp only [List.setIfInBounds_toArray]); (try simp only [List.set_cons_succ]); (try simp only [List.set_cons_zero])
          refine anyT_take 2 [8, 9, 10] (v := ?_) rfl (by kernel_rfl) (fun _ _ _ h => h) (Or.inl ⟨by kernel_rfl, ?_⟩) HSW ?_
          rotate_left
          · (intro w hSw; obtain ⟨hs0, hs1⟩ := hSw; go_simp; (try with_reducible rfl))
          (try simp only [Act.put]); (try simp only [List.setIfInBounds_toArray]); (try simp only [List.set_cons_succ]); (try simp only [List.set_cons_zero])
          refine anyT_take 3 [4, 5, 6, 7, 8, 9, 10] (v := ?_) rfl (by kernel_rfl) (fun _ _ _ h => h) (Or.inl ⟨by kernel_rfl, ?_⟩) HSW ?_
          rotate_left
          · (intro w hSw; obtain ⟨hs0, hs1⟩ := hSw; go_simp; (try with_reducible rfl))
          (try simp only [Act.put]); (try simp only [List.setIfInBounds_toArray]); (try simp only [List.set_cons_succ]); (try simp only [List.set_cons_zero])
          refine anyT_take 4 [5, 6, 7, 8, 9, 10] (v := ?_) rfl (by kernel_rfl) (fun _ _ _ h => h) (Or.inl ⟨by kernel_rfl, ?_⟩) HSW ?_
          rotate_left
          · (intro w hSw; obtain ⟨hs0, hs1⟩ := hSw; go_simp; (try with_reducible rfl))
          (try simp only [Act.put]); (try simp only [List.setIfInBounds_toArray]); (try simp only [List.set_cons_succ]); (try simp only [List.set_cons_zero])
          refine anyT_take 5 [6, 7, 8, 9, 10] (v := ?_) rfl (by kernel_rfl) (fun _ _ _ h => h) (Or.inl ⟨by kernel_rfl, ?_⟩) HSW ?_
          rotate_left
          · (intro w hSw; obtain ⟨hs0, hs1⟩ := hSw; go_simp; (try with_reducible rfl))
          (try simp only [Act.put]); (try simp only [List.setIfInBounds_toArray]); (try simp only [List.set_cons_succ]); (try simp only [List.set_cons_zero])
          refine anyT_take 6 [7, 8, 9, 10] (v := ?_) rfl (by kernel_rfl) (fun _ _ _ h => h) (Or.inl ⟨by kernel_rfl, ?_⟩) HSW ?_
          rotate_left
          · (intro w hSw; obtain ⟨hs0, hs1⟩ := hSw; go_simp; (try with_reducible rfl))
          (try simp only [Act.put]); (try simp only [List.setIfInBounds_toArray]); (try simp only [List.set_cons_succ]); (try simp only [List.set_cons_zero])
          refine anyT_take 7 [8, 9, 10] (v := ?_) rfl (by kernel_rfl) (fun _ _ _ h => h) (Or.inl ⟨by kernel_rfl, ?_⟩) HSW ?_
          rotate_left
          · (intro w hSw; obtain ⟨hs0, hs1⟩ := hSw; go_simp; (try with_reducible rfl))
          (try simp only [Act.put]); (try simp only [List.setIfInBounds_toArray]); (try simp only [List.set_cons_succ]); (try simp only [List.set_cons_zero])
          refine anyT_take 8 [9, 10] (v := ?_) rfl (by kernel_rfl) (fun _ _ _ h => h) (Or.inl ⟨by kernel_rfl, ?_⟩) HSW ?_
          rotate_left
          · (intro w hSw; obtain ⟨hs0, hs1⟩ := hSw; go_simp; (try with_reducible rfl))
          (try simp only [Act.put]); (try simp only [List.setIfInBounds_toArray]); (try simp only [List.set_cons_succ]); (try simp only [List.set_cons_zero])
          refine anyT_take 9 [10] (v := ?_) rfl (by kernel_rfl) (fun _ _ _ h => h) (Or.inl ⟨by kernel_rfl, ?_⟩) HSW ?_
          rotate_left
          · (intro w hSw; obtain ⟨hs0, hs1⟩ := hSw; go_simp; (try with_reducible rfl))
          (try simp only [Act.put]); (try simp only [List.setIfInBounds_toArray]); (try simp only [List.set_cons_succ]); (try simp only [List.set_cons_zero])
          refine anyT_step 10 (by kernel_rfl) rfl (fun K hK => ?_)
          go_simp
          refine hK.out _ _ (fun h => absurd rfl h) ?_
          clear hK K
          (try simp only [Act.put]); (try simp only [List.setIfInBounds_toArray]); (try simp only [List.set_cons_succ]); (try simp only [List.set_cons_zero])
          refine anyT_done (by kernel_rfl) ?_ _
          clear HSW t0d t1d f0d f1d
          obtain ⟨w2, hw2⟩ : ∃ w2, ((wd.setCell ⟨ab, m * 2, none⟩ (.slice ja jm jc)).setCell ⟨ab, m * 2 + 1, none⟩ (.slice (some ⟨g, o', none⟩) n' cap')) = w2 := ⟨_, rfl⟩
          have HSA : Hid (Stk W0 ab (m + 1) c (⟨x.2, .slice ja jm jc, x :: A', .slice (some ⟨g, o, none⟩) (n' + 1) (cap' + 1)⟩ :: r) (wd.setCell ⟨ab, m * 2, none⟩ (.slice ja jm jc))) := Lib.hid (HM.out ▸ HSD.out.set0 (.slice ja jm jc) x.2)
          have HS2 : Hid (Stk W0 ab (m + 1) c (⟨x.2, .slice ja jm jc, A', .slice (some ⟨g, o', none⟩) n' cap'⟩ :: r) w2) := Lib.hid (by
            have := HSA.out.set1 (.slice (some ⟨g, o', none⟩) n' cap') A'
            rw [HM.out, hw2] at this
            exact this)
          have HY2 : Hid (StayR wr w2) := Lib.hid (by
            rw [← hw2]
            exact ((stay_below HBD.out).trans (HSD.out.stay _ _)).trans (HSA.out.stay _ _))
          have HB2 : Hid (Below W0.heap.size W0 w2) := Lib.hid (by
            rw [← hw2]
            exact ((below_up HB.out HBD.out).setCell HS.out.low _).setCell HS.out.low _)
          have hne : bx ≠ ab := by have := HBX.out; omega
          have b0 : w2.cell? ⟨bx, 0, none⟩ = some (.int .i64 x.1) := by
            have hX : w2.heap[bx]? = some (.cells #[.int .i64 x.1, .slice ja jm jc] 68 (0, 0)) := by
              rw [← hw2, heap_setCell_other _ _ _ _ hne, heap_setCell_other _ _ _ _ hne]
              exact HXX.out
            rw [Lib.cell_of_heap hX]
            rfl
          have HTE : Hid (T ++ [(x.1, m)] ++ rem (⟨x.2, .slice ja jm jc, A', .slice (some ⟨g, o', none⟩) n' cap'⟩ :: r) = All) := Lib.hid (by
            rw [List.append_assoc, List.singleton_append, ← HM.out, ← rem_arm]
            exact HTT.out)
          have HC : Hid (Calls Tryd.prog 56 #[.int .i64 x.1, .int .i64 (m : Nat), .pointer (some p)] w2 (TellP W0 w2 (Inv (T ++ [(x.1, m)])))) := Lib.hid (by
            refine HOK.out.call T w2 x.1 m (HOK.out.stay _ _ _ HI.out HY2.out) HB2.out ?_ (by omega)
            have h1 := congrArg List.length HTE.out
            rw [List.length_append, List.length_append] at h1
            have h2 := HLEN.out
            simp at h1
            omega)
          rw [hw2]
          clear hw2 hne
          go_wp2_with (go_at_call 56; (with_reducible refine HC.out.mono ?_); rintro e3 w3 ⟨rfl, hi3, hk3, hb3⟩; have HI3 := Lib.hid hi3; have HK3 := Lib.hid hk3; have HB3 := Lib.hid hb3; clear hi3 hk3 hb3)
          go_roundg (mu8 (⟨x.2, .slice ja jm jc, A', .slice (some ⟨g, o', none⟩) n' cap'⟩ :: r))
          case measure => exact Nat.lt_of_lt_of_le mu_arm HMU.out
          case rel => exact ⟨_, _, ab, m + 1, c, e, rfl, HS2.out.keep HK3.out, ⟨⟨HIT.out, HTL.out⟩, HF3.out⟩, HES.out, HTE.out, HI3.out, HB3.out, Nat.le_refl _⟩
        | nil =>
          obtain ⟨aa, an, ac, rfl, han, -⟩ := hF2.form
          obtain rfl : an = 0 := han
          have HTE : Hid (T ++ rem r = All) := Lib.hid (by have := HTT.out; rw [rem_pop] at this; exact this)
          have HP : Hid (Stk W0 ab m c r wr) := Lib.hid (HM.out ▸ HS.out.pop)
          have hwm : IntKind.i64.wrap (m : Int) = (m : Int) := IntWalk.i64_in _ (by omega)
          have hm0 : (0 : Int) ≤ (m : Int) := by omega
          have hmo : (m : Int) ≤ (c : Int) := by omega
          clear hF1 hF2
          go_wp2
          go_roundg (mu8 r)
          case measure => exact Nat.lt_of_lt_of_le mu_pop HMU.out
          case rel => exact ⟨r, T, ab, m, c, e + 1, rfl, HP.out, HF3.out, by have := HES.out; simp only [List.length_cons] at this; omega, HTE.out, HI.out, HB.out, Nat.le_refl _⟩

end Go.Proofs.YtlnlpahmfpjjdaaDoor

/-
  The project's walk over items, with Depth's closure.
-/
namespace Go.Proofs.YtlnlpahmfpjjdaaDoor
open Go.RowKit

def EachDR (W0 : World) (d : Nat) (All : List (Int × Nat)) (Inv : List (Int × Nat) → World → Prop) (gk : Nat) (sv : Value) (wr : World) : Prop :=
  ∃ S T ab n c e, sv = .slice (some ⟨ab, 0, none⟩) n c ∧ Stk W0 ab n c S wr ∧ FsAt W0 e S ∧ e + S.length = d + 1 ∧ T ++ rem S = All ∧ Inv T wr ∧ Below W0.heap.size W0 wr ∧ mu8 S ≤ gk
def EachDP (W0 : World) (I : World → Prop) (e : Ending) (w' : World) : Prop := e = .returned (.tuple #[]) ∧ I w' ∧ Below W0.heap.size W0 w'

set_option maxRecDepth 100000 in
set_option maxHeartbeats 12800000 in
theorem eachD_any {W0 W : World} {p : Addr} {Inv : List (Int × Nat) → World → Prop} (OK : Teller W0 57 p Inv) (hbel : Below W0.heap.size W0 W) {d : Nat} {L : List Itm} {v : Value} (h : ItsAt d L v W0) (hd : d ≤ 800000) (hI : Inv [] W) (hlen : (evIts 0 L).length ≤ 17592186044416) :
    Calls Tryd.prog 55 #[v, .func (.func 57) #[] #[.pointer (some p)]] W (EachDP W0 (Inv (evIts 0 L))) := by
  obtain ⟨All, hAll⟩ : ∃ All, evIts 0 L = All := ⟨_, rfl⟩
  rw [hAll] at hlen ⊢
  obtain ⟨va, vn, vc, rfl, -⟩ := itsAt_form d _ _ _ h
  have hA := heap_alloc_new W (.cells #[.slice va vn vc, .slice none 0 0] 127)
  have HST : Hid (EachDR W0 d All Inv (mu8 [⟨L, .slice va vn vc, [], .slice none 0 0⟩]) (.slice (some ⟨W.heap.size, 0, none⟩) 1 1) (W.alloc (.cells #[.slice va vn vc, .slice none 0 0] 127))) := Lib.hid (by
    refine ⟨[⟨L, .slice va vn vc, [], .slice none 0 0⟩], [], W.heap.size, 1, 1, d, rfl, ⟨rfl, rfl, .inr ⟨W.heap.size, 1, _, rfl, hbel.size, hA, Nat.le_refl _, by unfold maxLen; omega, rfl, rfl⟩⟩, ⟨⟨h, arms_nil _ _⟩, trivial⟩, rfl, ?_, OK.stay _ _ _ hI (stay_below ((Below.refl _ _).alloc (Nat.le_refl _) _)), hbel.alloc hbel.size _, Nat.le_refl _⟩
    simp only [rem, evArms, List.append_nil, List.nil_append]
    exact hAll)
  have HOK := Lib.hid OK
  have HLEN := Lib.hid hlen
  have HD := Lib.hid hd
  clear h hI hlen hA hbel hAll OK hd
  go_enter Tryd.func55, Tryd.ntmps55
  go_wp2
  go_loopg [4] (mu8 [⟨L, .slice va vn vc, [], .slice none 0 0⟩]) (fun gk sv wr => EachDR W0 d All Inv gk sv wr)
  case atStart => exact HST.out
  case round =>
    obtain ⟨S, T, ab, n, c, e, rfl, hS, hF, hes, hT, hI, hB, hmu⟩ := hrel
    have HI := Lib.hid hI
    have HB := Lib.hid hB
    have HS := Lib.hid hS
    clear hI hB
    cases S with
    | nil =>
      obtain rfl : n = 0 := hS.1
      have HT : Hid (T = All) := Lib.hid (by simpa [rem] using hT)
      clear hS hF hes hT hmu HST
      go_wp2
      go_end0
      exact ⟨rfl, HT.out ▸ HI.out, HB.out⟩
    | cons f r =>
      obtain ⟨Lf, iv, Af, av⟩ := f
      obtain ⟨t0, t1, hab, hnc, hcm, hfz, hn⟩ := hS.top
      obtain ⟨⟨hF1, hF2⟩, hF3⟩ := hF
      simp only at t0 t1 hF1 hF2
      have HMU := Lib.hid hmu
      have HTT := Lib.hid hT
      have HF3 := Lib.hid hF3
      have HES := Lib.hid hes
      have hm8 : r.length ≤ 800000 := by have h1 := HES.out; have h2 := HD.out; simp only [List.length_cons] at h1; omega
      obtain ⟨m, hm⟩ : ∃ m, r.length = m := ⟨_, rfl⟩
      have HM := Lib.hid hm
      rw [hm] at t0 t1 hn hm8
      have f0 := hfz (m * 2)
      have f1 := hfz (m * 2 + 1)
      unfold maxLen at hcm
      subst hn
      have HF1 := Lib.hid hF1
      have HF2 := Lib.hid hF2
      clear hS hT hmu hF3 hm hfz hes
      cases Lf with
      | cons it L' =>
        obtain ⟨a', n1, c1, rfl, -⟩ := itsAt_form e _ _ _ hF1
        obtain ⟨g, o, n', cap', aa, an, ac, rfl, rfl, rfl, hn', hcap', hg, han, hac1, hac2, ⟨q0, q1, q2⟩, htail, hcond⟩ := hF1.head
        obtain ⟨o', ho', hs1⟩ := slice1_its g o n' cap' hn' hcap'
        have HTL := Lib.hid (htail o' ho')
        have HCD := Lib.hid hcond
        have HAN := Lib.hid han
        have c0 := bcell HB.out q0 hg
        have c1 := bcell HB.out q1 hg
        have c2 := bcell HB.out q2 hg
        have hgw : g < wr.heap.size := Nat.lt_of_lt_of_le hg HB.out.size
        unfold maxLen at hac2 hcap'
        have HBA : Hid (Below (wr.setCell ⟨ab, m * 2, none⟩ (.slice (some ⟨g, o', none⟩) n' cap')).heap.size (wr.setCell ⟨ab, m * 2, none⟩ (.slice (some ⟨g, o', none⟩) n' cap')) ((wr.setCell ⟨ab, m * 2, none⟩ (.slice (some ⟨g, o', none⟩) n' cap')).alloc (.cells #[.int .i64 it.k, .int .i64 it.line, .slice aa an ac] 66))) := Lib.hid ((Below.refl _ _).alloc (Nat.le_refl _) _)
        obtain ⟨w2, hw2⟩ : ∃ w2, ((wr.setCell ⟨ab, m * 2, none⟩ (.slice (some ⟨g, o', none⟩) n' cap')).alloc (.cells #[.int .i64 it.k, .int .i64 it.line, .slice aa an ac] 66)) = w2 := ⟨_, rfl⟩
        have HW2 := Lib.hid hw2
        have HS2 : Hid (Stk W0 ab (m + 1) c (⟨L', .slice (some ⟨g, o', none⟩) n' cap', Af, av⟩ :: r) w2) := Lib.hid (by
          have := HS.out.set0 (.slice (some ⟨g, o', none⟩) n' cap') L'
          rw [HM.out] at this
          have h2 := this.over HBA.out
          rw [HW2.out] at h2
          exact h2)
        have HY2 : Hid (StayR wr w2) := Lib.hid (by
          rw [← HW2.out]
          exact (HS.out.stay _ _).trans (stay_below HBA.out))
        have HB2 : Hid (Below W0.heap.size W0 w2) := Lib.hid (by
          rw [← HW2.out]
          exact below_up (HB.out.setCell HS.out.low _) HBA.out)
        have hX : w2.heap[wr.heap.size]? = some (.cells #[.int .i64 it.k, .int .i64 it.line, .slice aa an ac] 66 (0, 0)) := by
          have hA := heap_alloc_new (wr.setCell ⟨ab, m * 2, none⟩ (.slice (some ⟨g, o', none⟩) n' cap')) (.cells #[.int .i64 it.k, .int .i64 it.line, .slice aa an ac] 66)
          rw [show (wr.setCell ⟨ab, m * 2, none⟩ (.slice (some ⟨g, o', none⟩) n' cap')).heap.size = wr.heap.size from by simp [World.setCell], HW2.out] at hA
          exact hA
        have b1 : w2.cell? ⟨wr.heap.size, 1, none⟩ = some (.int .i64 it.line) := by rw [Lib.cell_of_heap hX]; rfl
        have b2 : w2.cell? ⟨wr.heap.size, 2, none⟩ = some (.slice aa an ac) := by rw [Lib.cell_of_heap hX]; rfl
        rw [← hw2] at b1 b2
        clear q0 q1 q2 htail hcond han hX hw2 hF1 hF2
        by_cases h0 : an = 0
        · subst h0
          have HNIL : Hid (it.arms = []) := Lib.hid (List.eq_nil_of_length_eq_zero HAN.out.symm)
          have HTE : Hid (T ++ [(it.line, m)] ++ rem (⟨L', .slice (some ⟨g, o', none⟩) n' cap', Af, av⟩ :: r) = All) := Lib.hid (by
            rw [List.append_assoc, List.singleton_append, ← HM.out, ← rem_leaf HNIL.out]
            exact HTT.out)
          have HC : Hid (Calls Tryd.prog 57 #[.int .i64 it.line, .int .i64 (m : Nat), .pointer (some p)] ((wr.setCell ⟨ab, m * 2, none⟩ (.slice (some ⟨g, o', none⟩) n' cap')).alloc (.cells #[.int .i64 it.k, .int .i64 it.line, .slice aa 0 ac] 66)) (TellP W0 w2 (Inv (T ++ [(it.line, m)])))) := Lib.hid (by
            rw [HW2.out]
            refine HOK.out.call T w2 it.line m (HOK.out.stay _ _ _ HI.out HY2.out) HB2.out ?_ (by omega)
            have h1 := congrArg List.length HTE.out
            rw [List.length_append, List.length_append] at h1
            have h2 := HLEN.out
            simp at h1
            omega)
          go_wp2_with (go_at_call 57; (with_reducible refine HC.out.mono ?_); rintro e3 w3 ⟨rfl, hi3, hk3, hb3⟩; have HI3 := Lib.hid hi3; have HK3 := Lib.hid hk3; have HB3 := Lib.hid hb3; clear hi3 hk3 hb3)
          go_roundg (mu8 (⟨L', .slice (some ⟨g, o', none⟩) n' cap', Af, av⟩ :: r))
          case measure => exact Nat.lt_of_lt_of_le mu_leaf HMU.out
          case rel => exact ⟨_, _, ab, m + 1, c, e, rfl, HS2.out.keep HK3.out, ⟨⟨HTL.out, HF2.out⟩, HF3.out⟩, HES.out, HTE.out, HI3.out, HB3.out, Nat.le_refl _⟩
        · have hne : it.arms ≠ [] := fun e => h0 (by rw [HAN.out, e]; rfl)
          obtain ⟨e', he', harms⟩ := HCD.out hne
          have HARM := Lib.hid harms
          have HE' := Lib.hid he'
          have HTE : Hid (T ++ rem (⟨[], .slice none 0 0, it.arms, .slice aa an ac⟩ :: ⟨L', .slice (some ⟨g, o', none⟩) n' cap', Af, av⟩ :: r) = All) := Lib.hid (by
            rw [← rem_cond hne]
            exact HTT.out)
          have hanI : (0 : Int) < (an : Int) := by omega
          have HX : Hid (∃ v' w', (Builtin.append_ #[128, 128] 128 #[.slice (some ⟨ab, 0, none⟩) (m + 1) c, .slice (some ⟨wr.heap.size + 1, 0, none⟩) 1 1]).run Tryd.prog (((wr.setCell ⟨ab, m * 2, none⟩ (.slice (some ⟨g, o', none⟩) n' cap')).alloc (.cells #[.int .i64 it.k, .int .i64 it.line, .slice aa an ac] 66)).alloc (.cells #[.slice none 0 0, .slice aa an ac] 127)) = .ok v' w' ∧ ∃ b n cap, v' = .slice (some ⟨b, 0, none⟩) n cap ∧ Pushed8 W0 (w2.alloc (.cells #[.slice none 0 0, .slice aa an ac] 127)) (⟨[], .slice none 0 0, it.arms, .slice aa an ac⟩ :: ⟨L', .slice (some ⟨g, o', none⟩) n' cap', Af, av⟩ :: r) b n cap w') := Lib.hid (by
            have hsz : w2.heap.size = wr.heap.size + 1 := by rw [← HW2.out]; simp [World.setCell]
            have hA := heap_alloc_new w2 (.cells #[.slice none 0 0, .slice aa an ac] 127)
            rw [hsz] at hA
            rw [HW2.out]
            refine as_value ((HS2.out.over ((Below.refl _ _).alloc (Nat.le_refl _) _)).push (HB2.out.alloc HB2.out.size _) _ (src_row hA rfl rfl) (fun u hu => ?_) (by rw [List.length_cons, HM.out]; omega))
            simp only [zcell, List.mem_cons, List.not_mem_nil, or_false] at hu
            rcases hu with rfl | rfl <;> rfl)
          clear hne h0 harms he'
          go_wp2_with (at_builtin; refine wpList_append_ex rfl (.tmp 49) (.tmp 53) 128 rfl _ HX.out ?_; rintro v' w3 ⟨b5, n5, c5, rfl, hs5, hy5, hb5⟩; have HS5 := Lib.hid hs5; have HY5 := Lib.hid hy5; have HB5 := Lib.hid hb5; clear hs5 hy5 hb5)
          go_roundg (mu8 (⟨[], .slice none 0 0, it.arms, .slice aa an ac⟩ :: ⟨L', .slice (some ⟨g, o', none⟩) n' cap', Af, av⟩ :: r))
          case measure => exact Nat.lt_of_lt_of_le mu_cond HMU.out
          case rel =>
            have hE := HE'.out
            subst hE
            refine ⟨_, T, b5, n5, c5, e', rfl, HS5.out, ⟨⟨⟨none, 0, rfl, Nat.le_refl _, Nat.zero_le _, fun k s h => by simp at h⟩ |> its_up (d := 0) (Nat.zero_le _), HARM.out⟩, ⟨HTL.out, HF2.out⟩, HF3.out⟩, by have := HES.out; simp only [List.length_cons] at this ⊢; omega, HTE.out, HOK.out.stay _ _ _ (HOK.out.stay _ _ _ HI.out HY2.out) ((stay_below ((Below.refl _ _).alloc (Nat.le_refl _) _)).trans HY5.out), HB5.out, Nat.le_refl _⟩
      | nil =>
        obtain ⟨ia, im, ic, rfl, him, -⟩ := itsAt_form e _ _ _ hF1
        obtain rfl : im = 0 := him
        cases Af with
        | cons x A' =>
          obtain ⟨a', n1, c1, rfl, -⟩ := hF2.form
          obtain ⟨g, o, n', cap', ja, jm, jc, rfl, rfl, rfl, hn', hcap', hg, hjm, hjc, ⟨d0, d1⟩, htail, hits⟩ := arms_head hF2
          obtain ⟨o', ho', hs1⟩ := slice1_arms g o n' cap' hn' hcap'
          have HTL := Lib.hid (htail o' ho')
          have HIT := Lib.hid hits
          have c0 := bcell HB.out d0 hg
          have c1 := bcell HB.out d1 hg
          have hgw : g < wr.heap.size := Nat.lt_of_lt_of_le hg HB.out.size
          unfold maxLen at hjc hcap'
          clear d0 d1 htail hits hF1 hF2
          go_wp2
          clear c0 c1
          obtain ⟨bx, hbx⟩ : ∃ bx, wr.heap.size = bx := ⟨_, rfl⟩
          have HBX := Lib.hid hbx
          obtain ⟨wd, hwd⟩ : ∃ wd, (wr.alloc (.cells #[.int .i64 x.1, .slice ja jm jc] 68)).drew = wd := ⟨_, rfl⟩
          have HBD : Hid (Below wr.heap.size wr wd) := Lib.hid (hwd ▸ ((Below.refl _ _).alloc (Nat.le_refl _) _).drew)
          have HXX : Hid (wd.heap[bx]? = some (.cells #[.int .i64 x.1, .slice ja jm jc] 68 (0, 0))) := Lib.hid (by rw [← hwd, ← hbx]; exact heap_alloc_new wr _)
          have HSD := Lib.hid (HS.out.over HBD.out)
          have HSW : wd.cell? ⟨bx, 1, none⟩ = some (.slice ja jm jc) ∧ wd.cell? ⟨ab, m * 2 + 1, none⟩ = some (.slice (some ⟨g, o, none⟩) (n' + 1) (cap' + 1)) := ⟨by rw [Lib.cell_of_heap HXX.out]; rfl, bcell HBD.out t1 hab⟩
          have t0d := bcell HBD.out t0 hab
          have f0d : wd.frozen? ⟨ab, m * 2, none⟩ = false := by have := HSD.out.top.2.2.2.2.2.1; exact this _
          have f1d : wd.frozen? ⟨ab, m * 2 + 1, none⟩ = false := by have := HSD.out.top.2.2.2.2.2.1; exact this _
          have t1d := HSW.2
          rw [hbx]
          clear hbx t0 t1 f0 f1
          refine region_anyT (S := fun w' => w'.cell? ⟨bx, 1, none⟩ = some (.slice ja jm jc) ∧ w'.cell? ⟨ab, m * 2 + 1, none⟩ = some (.slice (some ⟨g, o, none⟩) (n' + 1) (cap' + 1))) 10 (by kernel_rfl) ?_
          rw [hwd]
          refine anyT_take 0 [9, 10] (v := ?_) rfl (by kernel_rfl) (fun _ _ _ h => h) (Or.inl ⟨by kernel_rfl, ?_⟩) HSW ?_
          rotate_left
          · (intro w hSw; obtain ⟨hs0, hs1⟩ := hSw; go_simp; (try with_reducible rfl))
          (try simp only [Act.put]); (try simp only [List.setIfInBounds_toArray]); (try simp only [List.set_cons_succ]); (try simp only [List.set_cons_zero])
          refine anyT_take 1 [2, 8, 9, 10] (v := ?_) rfl (by kernel_rfl) (fun _ _ _ h => h) (Or.inl ⟨by kernel_rfl, ?_⟩) HSW ?_
          rotate_left
          · (intro w hSw; obtain ⟨hs0, hs1⟩ := hSw; go_simp; (try with_reducible rfl))
          (try simp only [Act.put]); (try simp only [List.setIfInBounds_toArray]); (try simp only [List.set_cons_succ]); (try simp only [List.set_cons_zero])
          refine anyT_take 2 [8, 9, 10] (v := ?_) rfl (by kernel_rfl) (fun _ _ _ h => h) (Or.inl ⟨by kernel_rfl, ?_⟩) HSW ?_
          rotate_left
          · (intro w hSw; obtain ⟨hs0, hs1⟩ := hSw; go_simp; (try with_reducible rfl))
          (try simp only [Act.put]); (try simp only [List.setIfInBounds_toArray]); (try simp only [List.set_cons_succ]); (try simp only [List.set_cons_zero])
          refine anyT_take 3 [4, 5, 6, 7, 8, 9, 10] (v := ?_) rfl (by kernel_rfl) (fun _ _ _ h => h) (Or.inl ⟨by kernel_rfl, ?_⟩) HSW ?_
          rotate_left
          · (intro w hSw; obtain ⟨hs0, hs1⟩ := hSw; go_simp; (try with_reducible rfl))
          (try simp only [Act.put]); (try simp only [List.setIfInBounds_toArray]); (try simp only [List.set_cons_succ]); (try simp only [List.set_cons_zero])
          refine anyT_take 4 [5, 6, 7, 8, 9, 10] (v := ?_) rfl (by kernel_rfl) (fun _ _ _ h => h) (Or.inl ⟨by kernel_rfl, ?_⟩) HSW ?_
          rotate_left
          · (intro w hSw; obtain ⟨hs0, hs1⟩ := hSw; go_simp; (try with_reducible rfl))
          (try simp only [Act.put]); (try simp only [List.setIfInBounds_toArray]); (try simp only [List.set_cons_succ]); (try simp only [List.set_cons_zero])
          refine anyT_take 5 [6, 7, 8, 9, 10] (v := ?_) rfl (by kernel_rfl) (fun _ _ _ h => h) (Or.inl ⟨by kernel_rfl, ?_⟩) HSW ?_
          rotate_left
          · (intro w hSw; obtain ⟨hs0, hs1⟩ := hSw; go_simp; (try with_reducible rfl))
          (try simp only [Act.put]); (try simp only [List.setIfInBounds_toArray]); (try simp only [List.set_cons_succ]); (try simp only [List.set_cons_zero])
          refine anyT_take 6 [7, 8, 9, 10] (v := ?_) rfl (by kernel_rfl) (fun _ _ _ h => h) (Or.inl ⟨by kernel_rfl, ?_⟩) HSW ?_
          rotate_left
          · (intro w hSw; obtain ⟨hs0, hs1⟩ := hSw; go_simp; (try with_reducible rfl))
          (try simp only [Act.put]); (try simp only [List.setIfInBounds_toArray]); (try simp only [List.set_cons_succ]); (try simp only [List.set_cons_zero])
          refine anyT_take 7 [8, 9, 10] (v := ?_) rfl (by kernel_rfl) (fun _ _ _ h => h) (Or.inl ⟨by kernel_rfl, ?_⟩) HSW ?_
          rotate_left
          · (intro w hSw; obtain ⟨hs0, hs1⟩ := hSw; go_simp; (try with_reducible rfl))
          (try simp only [Act.put]); (try simp only [List.setIfInBounds_toArray]); (try simp only [List.set_cons_succ]); (try simp only [List.set_cons_zero])
          refine anyT_take 8 [9, 10] (v := ?_) rfl (by kernel_rfl) (fun _ _ _ h => h) (Or.inl ⟨by kernel_rfl, ?_⟩) HSW ?_
          rotate_left
          · (intro w hSw; obtain ⟨hs0, hs1⟩ := hSw; go_simp; (try with_reducible rfl))
          (try simp only [Act.put]); (try simp only [List.setIfInBounds_toArray]); (try simp only [List.set_cons_succ]); (try simp only [List.set_cons_zero])
          refine anyT_take 9 [10] (v := ?_) rfl (by kernel_rfl) (fun _ _ _ h => h) (Or.inl ⟨by kernel_rfl, ?_⟩) HSW ?_
          rotate_left
          · (intro w hSw; obtain ⟨hs0, hs1⟩ := hSw; go_simp; (try with_reducible rfl))
          (try simp only [Act.put]); (try simp only [List.setIfInBounds_toArray]); (try simp only [List.set_cons_succ]); (try simp only [List.set_cons_zero])
          refine anyT_step 10 (by kernel_rfl) rfl (fun K hK => ?_)
          go_simp
          refine hK.out _ _ (fun h => absurd rfl h) ?_
          clear hK K
          (try simp only [Act.put]); (try simp only [List.setIfInBounds_toArray]); (try simp only [List.set_cons_succ]); (try simp only [List.set_cons_zero])
          refine anyT_done (by kernel_rfl) ?_ _
          clear HSW t0d t1d f0d f1d
          obtain ⟨w2, hw2⟩ : ∃ w2, ((wd.setCell ⟨ab, m * 2, none⟩ (.slice ja jm jc)).setCell ⟨ab, m * 2 + 1, none⟩ (.slice (some ⟨g, o', none⟩) n' cap')) = w2 := ⟨_, rfl⟩
          have HSA : Hid (Stk W0 ab (m + 1) c (⟨x.2, .slice ja jm jc, x :: A', .slice (some ⟨g, o, none⟩) (n' + 1) (cap' + 1)⟩ :: r) (wd.setCell ⟨ab, m * 2, none⟩ (.slice ja jm jc))) := Lib.hid (HM.out ▸ HSD.out.set0 (.slice ja jm jc) x.2)
          have HS2 : Hid (Stk W0 ab (m + 1) c (⟨x.2, .slice ja jm jc, A', .slice (some ⟨g, o', none⟩) n' cap'⟩ :: r) w2) := Lib.hid (by
            have := HSA.out.set1 (.slice (some ⟨g, o', none⟩) n' cap') A'
            rw [HM.out, hw2] at this
            exact this)
          have HY2 : Hid (StayR wr w2) := Lib.hid (by
            rw [← hw2]
            exact ((stay_below HBD.out).trans (HSD.out.stay _ _)).trans (HSA.out.stay _ _))
          have HB2 : Hid (Below W0.heap.size W0 w2) := Lib.hid (by
            rw [← hw2]
            exact ((below_up HB.out HBD.out).setCell HS.out.low _).setCell HS.out.low _)
          have hne : bx ≠ ab := by have := HBX.out; omega
          have b0 : w2.cell? ⟨bx, 0, none⟩ = some (.int .i64 x.1) := by
            have hX : w2.heap[bx]? = some (.cells #[.int .i64 x.1, .slice ja jm jc] 68 (0, 0)) := by
              rw [← hw2, heap_setCell_other _ _ _ _ hne, heap_setCell_other _ _ _ _ hne]
              exact HXX.out
            rw [Lib.cell_of_heap hX]
            rfl
          have HTE : Hid (T ++ [(x.1, m)] ++ rem (⟨x.2, .slice ja jm jc, A', .slice (some ⟨g, o', none⟩) n' cap'⟩ :: r) = All) := Lib.hid (by
            rw [List.append_assoc, List.singleton_append, ← HM.out, ← rem_arm]
            exact HTT.out)
          have HC : Hid (Calls Tryd.prog 57 #[.int .i64 x.1, .int .i64 (m : Nat), .pointer (some p)] w2 (TellP W0 w2 (Inv (T ++ [(x.1, m)])))) := Lib.hid (by
            refine HOK.out.call T w2 x.1 m (HOK.out.stay _ _ _ HI.out HY2.out) HB2.out ?_ (by omega)
            have h1 := congrArg List.length HTE.out
            rw [List.length_append, List.length_append] at h1
            have h2 := HLEN.out
            simp at h1
            omega)
          rw [hw2]
          clear hw2 hne
          go_wp2_with (go_at_call 57; (with_reducible refine HC.out.mono ?_); rintro e3 w3 ⟨rfl, hi3, hk3, hb3⟩; have HI3 := Lib.hid hi3; have HK3 := Lib.hid hk3; have HB3 := Lib.hid hb3; clear hi3 hk3 hb3)
          go_roundg (mu8 (⟨x.2, .slice ja jm jc, A', .slice (some ⟨g, o', none⟩) n' cap'⟩ :: r))
          case measure => exact Nat.lt_of_lt_of_le mu_arm HMU.out
          case rel => exact ⟨_, _, ab, m + 1, c, e, rfl, HS2.out.keep HK3.out, ⟨⟨HIT.out, HTL.out⟩, HF3.out⟩, HES.out, HTE.out, HI3.out, HB3.out, Nat.le_refl _⟩
        | nil =>
          obtain ⟨aa, an, ac, rfl, han, -⟩ := hF2.form
          obtain rfl : an = 0 := han
          have HTE : Hid (T ++ rem r = All) := Lib.hid (by have := HTT.out; rw [rem_pop] at this; exact this)
          have HP : Hid (Stk W0 ab m c r wr) := Lib.hid (HM.out ▸ HS.out.pop)
          have hwm : IntKind.i64.wrap (m : Int) = (m : Int) := IntWalk.i64_in _ (by omega)
          have hm0 : (0 : Int) ≤ (m : Int) := by omega
          have hmo : (m : Int) ≤ (c : Int) := by omega
          clear hF1 hF2
          go_wp2
          go_roundg (mu8 r)
          case measure => exact Nat.lt_of_lt_of_le mu_pop HMU.out
          case rel => exact ⟨r, T, ab, m, c, e + 1, rfl, HP.out, HF3.out, by have := HES.out; simp only [List.length_cons] at this; omega, HTE.out, HI.out, HB.out, Nat.le_refl _⟩

end Go.Proofs.YtlnlpahmfpjjdaaDoor
