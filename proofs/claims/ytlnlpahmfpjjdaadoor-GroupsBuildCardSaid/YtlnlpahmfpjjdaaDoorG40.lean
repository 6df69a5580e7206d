/-
  Texts of the proof, put together: GrRaw, GrRawL.
-/
import Derived.Test.YtlnlpahmfpjjdaaDoorG16
import Derived.Test.YtlnlpahmfpjjdaaDoorG07
import Derived.Deep.RegionHeld3
import Derived.Test.YtlnlpahmfpjjdaaDoorG38
import Derived.Test.YtlnlpahmfpjjdaaDoorG39
import Derived.Test.YtlnlpahmfpjjdaaDoorG18

/-
  raw of the law, walked.
-/
namespace Go.Proofs.YtlnlpahmfpjjdaaDoor
open Go.RowKit

def CpPost_raw (S : RelQ) (w : World) (l : List Itm) (e : Ending) (w' : World) : Prop := ∃ a n c, e = .returned (.slice a n c) ∧ S w.heap.size w'.heap.size l (.slice a n c) w' ∧ Below w.heap.size w w'

theorem take_more_raw {α : Type} {l : List α} {k : Nat} {a : α} (h : l[k]? = some a) : l.take (k + 1) = l.take k ++ [a] := by
  rw [List.take_add_one, h]
  rfl

set_option maxRecDepth 100000 in
set_option maxHeartbeats 6400000 in
theorem raw_step {R : RelI} {Q : RelQ} {Sm : List Itm → Prop} (hF : Formed R) (oR : Over R) (hQ : GoodQ Q) (hR : ∀ l v w, R l v w → Sm l → Calls Tryd.prog 35 #[v] w (CpPost_raw Q w l)) {l : List Itm} {v : Value} {w : World} (h : ItsOf R l v w) (hl : l.length ≤ 500000) (hs : ∀ it ∈ l, it.arms.length ≤ 500000 ∧ ∀ x ∈ it.arms, Sm x.2) :
    Calls Tryd.prog 35 #[v] w (CpPost_raw (fun lo hi => ItsPf (Iv lo hi) (Q lo hi)) w l) := by
  obtain ⟨a, n, cap, rfl, hn, hc1, hc2⟩ := h.form
  have HX := Lib.hid h
  have HN := Lib.hid hn
  have HR := Lib.hid hR
  have HF := Lib.hid hF
  have HOR := Lib.hid oR
  have HQ := Lib.hid hQ
  have HSM := Lib.hid hs
  have hn5 : n ≤ 500000 := by omega
  obtain ⟨i1, hi1, hz10, hz11, hz12⟩ := info_parts Tryd.infoItmG
  obtain ⟨i2, hi2, hz20, hz21, hz22⟩ := info_parts Tryd.infoArmG
  unfold maxLen at hc2
  clear h hn hR hF oR hQ hs hl
  have HI1 : Hid (Tryd.prog.info? 66 = some i1 ∧ i1.zero = some (.agg #[.int .i64 0, .int .i64 0, .slice none 0 0]) ∧ i1.size = 3 ∧ i1.bytes = 40) := Lib.hid ⟨hi1, hz10, hz11, hz12⟩
  have HI2 : Hid (Tryd.prog.info? 68 = some i2 ∧ i2.zero = some (.agg #[.int .i64 0, .slice none 0 0]) ∧ i2.size = 2 ∧ i2.bytes = 32) := Lib.hid ⟨hi2, hz20, hz21, hz22⟩
  clear hi1 hz10 hz11 hz12 hi2 hz20 hz21 hz22
  go_enter Tryd.func35, Tryd.ntmps35
  go_wp2
  go_loopw [3, 4] (fun ov i wr => ∃ (k : Nat) (ob : Option Addr) (on oc : Nat), i = .int .i64 (k : Int) ∧ k ≤ n ∧ ov = .slice ob on oc ∧ OutS w.heap.size 66 Q (l.take k) ob on oc wr ∧ Below w.heap.size w wr) (fun _ i _ => n - (intOf i).toNat)
  case atStart => exact ⟨0, none, 0, 0, rfl, Nat.zero_le _, rfl, OutS.nil _ _ _ _, Below.refl _ _⟩
  case round =>
    obtain ⟨k, ob, on, oc, rfl, hk, rfl, hO, hB⟩ := hrel
    have HO := Lib.hid hO
    have HB := Lib.hid hB
    clear hO hB
    by_cases hlt : k < n
    · obtain ⟨it, hit⟩ : ∃ it, l[k]? = some it := ⟨_, List.getElem?_eq_getElem (by rw [← HN.out]; exact hlt)⟩
      obtain ⟨g, o, aa, an, ac, rfl, hg, han, hac1, hac2, ⟨c0, c1, c2⟩, hr⟩ := HX.out.get hit
      have HIT := Lib.hid hit
      have HAN := Lib.hid han
      have HAR := Lib.hid hr
      have HC := Lib.hid c2
      have HSI := Lib.hid (HSM.out it (List.mem_of_getElem? hit))
      have e0 := bcell HB.out c0 hg
      have e1 := bcell HB.out c1 hg
      have hkI : (k : Int) < (n : Int) := by omega
      have hk0 : (0 : Int) ≤ (k : Int) := by omega
      have hgw : g < wr.heap.size := Nat.lt_of_lt_of_le hg HB.out.size
      have hon5 : on ≤ 500000 := by
        have h1 := (HO.out.done HQ.out).1
        rw [List.length_take] at h1
        omega
      unfold maxLen at hac2
      clear hit han hr c0 c1 c2
      go_wp2
      go_region_held3 (fun w' => w'.cell? ⟨g, o + k * 3, none⟩ = some (.int .i64 it.k) ∧ w'.cell? ⟨g, o + k * 3 + 1, none⟩ = some (.int .i64 it.line)) (first | go_keep) (first | fail)
      clear e0 e1
      obtain ⟨b, hb⟩ : ∃ b, wr.heap.size = b := ⟨_, rfl⟩
      have HBZ := Lib.hid hb
      obtain ⟨w1, hw1⟩ : ∃ w1, (wr.alloc (Obj.cells #[.int .i64 it.k, .int .i64 it.line, .slice none 0 0] 66)).drew = w1 := ⟨_, rfl⟩
      have HB1 : Hid (Below wr.heap.size wr w1) := Lib.hid (hw1 ▸ ((Below.refl _ _).alloc (Nat.le_refl _) _).drew)
      have HX1 : Hid (w1.heap[b]? = some (.cells #[.int .i64 it.k, .int .i64 it.line, .slice none 0 0] 66 (0, 0))) := Lib.hid (by rw [← hw1, ← hb]; exact heap_alloc_new wr _)
      rw [hw1, hb]
      clear hw1 hb hgw
      obtain ⟨wo, rfl⟩ : ∃ wo, wo = wr := ⟨wr, rfl⟩
      go_wp2
      go_loopw [6] (fun i wi => ∃ (j : Nat) (ab : Option Addr) (an2 ac2 : Nat), i = .int .i64 (j : Int) ∧ j ≤ an ∧ an2 ≤ 500000 ∧ wi.heap[b]? = some (.cells #[.int .i64 it.k, .int .i64 it.line, .slice ab an2 ac2] 66 (0, 0)) ∧ ArmS (b + 1) 68 Q (it.arms.take j) ab an2 ac2 wi ∧ Below wo.heap.size wo wi) (fun i _ => an - (intOf i).toNat)
      case atStart => exact ⟨0, none, 0, 0, rfl, Nat.zero_le _, Nat.zero_le _, HX1.out, ArmS.nil _ _ _ _, HB1.out⟩
      case round =>
        obtain ⟨j, ab, an2, ac2, rfl, hj, han5, hxb, hA, hbi⟩ := hrel
        have HXI := Lib.hid hxb
        have HAI := Lib.hid hA
        have HBI := Lib.hid hbi
        have HWI : Hid (Below w.heap.size w wr) := Lib.hid (below_up HB.out hbi)
        have e2 := bcell HWI.out HC.out hg
        have f2 : wr.cell? ⟨b, 2, none⟩ = some (.slice ab an2 ac2) := by rw [Lib.cell_of_heap hxb]; rfl
        clear hxb hA hbi
        by_cases hltj : j < an
        · obtain ⟨x, hx⟩ : ∃ x, it.arms[j]? = some x := ⟨_, List.getElem?_eq_getElem (by rw [← HAN.out]; exact hltj)⟩
          obtain ⟨p, q, ia, im, ic, rfl, hp, ⟨d0, d1⟩, hr2⟩ := HAR.out.get HF.out hx
          have HXJ := Lib.hid hx
          have HCL : Hid (∀ Y : World, Below w.heap.size w Y → Calls Tryd.prog 35 #[.slice ia im ic] Y (CpPost_raw Q Y x.2)) := Lib.hid (fun Y hY => HR.out _ _ _ (HOR.out _ _ _ _ hr2 hY) (HSI.out.2 x (List.mem_of_getElem? hx)))
          have HSY : Hid (∀ Y : World, Y.heap[b]? = some (.cells #[.int .i64 it.k, .int .i64 it.line, .slice ab an2 ac2] 66 (0, 0)) → Below wo.heap.size wo Y → Y.cell? ⟨b, 2, none⟩ = some (.slice ab an2 ac2) ∧ Y.cell? ⟨g, o + k * 3 + 2, none⟩ = some (.slice (some ⟨p, q, none⟩) an ac) ∧ Y.cell? ⟨p, q + j * 2, none⟩ = some (.int .i64 x.1) ∧ Y.cell? ⟨p, q + j * 2 + 1, none⟩ = some (.slice ia im ic)) := Lib.hid (fun Y hX hY => by
            have hWY := below_up HB.out hY
            exact ⟨by rw [Lib.cell_of_heap hX]; rfl, bcell hWY HC.out hg, bcell hWY d0 hp, bcell hWY d1 hp⟩)
          have hjI : (j : Int) < (an : Int) := by omega
          have hj0 : (0 : Int) ≤ (j : Int) := by omega
          clear hx d0 d1 hr2
          go_wp2
          clear e2 f2
          obtain ⟨wd, hwd⟩ : ∃ wd, wr.drew = wd := ⟨_, rfl⟩
          have HBR : Hid (Below wo.heap.size wo wd) := Lib.hid (hwd ▸ HBI.out.drew)
          have HBD : Hid (Below w.heap.size w wd) := Lib.hid (hwd ▸ HWI.out.drew)
          have HXD : Hid (wd.heap[b]? = some (.cells #[.int .i64 it.k, .int .i64 it.line, .slice ab an2 ac2] 66 (0, 0))) := Lib.hid (hwd ▸ HXI.out)
          have HAS : Hid (ArmS (b + 1) 68 Q (it.arms.take j) ab an2 ac2 wd) := Lib.hid (hwd ▸ HAI.out.over HQ.out (Below.refl _ _).drew)
          have HSW := HSY.out _ HXD.out HBR.out
          have HZB : Hid (b + 1 ≤ wd.heap.size) := Lib.hid (row_lt HXD.out)
          refine region_anyT (S := fun w' => w'.cell? ⟨b, 2, none⟩ = some (.slice ab an2 ac2) ∧ w'.cell? ⟨g, o + k * 3 + 2, none⟩ = some (.slice (some ⟨p, q, none⟩) an ac) ∧ w'.cell? ⟨p, q + j * 2, none⟩ = some (.int .i64 x.1) ∧ w'.cell? ⟨p, q + j * 2 + 1, none⟩ = some (.slice ia im ic)) 25 (by kernel_rfl) ?_
          rw [hwd]
          refine anyT_take 0 [1, 23, 24, 25] (v := ?_) rfl (by kernel_rfl) (fun _ _ _ h => h) (Or.inl ⟨by kernel_rfl, ?_⟩) HSW ?_
          rotate_left
          · (intro w hSw; obtain ⟨hs0, hs1, hs2, hs3⟩ := hSw; go_simp; (try with_reducible rfl))
          (try simp only [Act.put]); (try simp only [List.setIfInBounds_toArray]); (try simp only [List.set_cons_succ]); (try simp only [List.set_cons_zero])
          refine anyT_take 1 [23, 24, 25] (v := ?_) rfl (by kernel_rfl) (fun _ _ _ h => h) (Or.inl ⟨by kernel_rfl, ?_⟩) HSW ?_
          rotate_left
          · (intro w hSw; obtain ⟨hs0, hs1, hs2, hs3⟩ := hSw; go_simp; (try with_reducible rfl))
          (try simp only [Act.put]); (try simp only [List.setIfInBounds_toArray]); (try simp only [List.set_cons_succ]); (try simp only [List.set_cons_zero])
          refine anyT_take 2 [4, 5, 6, 8, 9, 10, 21, 22, 23, 24, 25] (v := ?_) rfl (by kernel_rfl) (fun _ _ _ h => h) (Or.inl ⟨by kernel_rfl, ?_⟩) HSW ?_
          rotate_left
          · (intro w hSw; obtain ⟨hs0, hs1, hs2, hs3⟩ := hSw; go_simp; (try with_reducible rfl))
          (try simp only [Act.put]); (try simp only [List.setIfInBounds_toArray]); (try simp only [List.set_cons_succ]); (try simp only [List.set_cons_zero])
          refine anyT_take 3 [4, 5, 6, 8, 9, 10, 21, 22, 23, 24, 25] (v := ?_) rfl (by kernel_rfl) (fun _ _ _ h => h) (Or.inl ⟨by kernel_rfl, ?_⟩) HSW ?_
          rotate_left
          · (intro w hSw; obtain ⟨hs0, hs1, hs2, hs3⟩ := hSw; go_simp; (try with_reducible rfl))
          (try simp only [Act.put]); (try simp only [List.setIfInBounds_toArray]); (try simp only [List.set_cons_succ]); (try simp only [List.set_cons_zero])
          refine anyT_take 4 [5, 6, 8, 9, 10, 21, 22, 23, 24, 25] (v := ?_) rfl (by kernel_rfl) (fun _ _ _ h => h) (Or.inl ⟨by kernel_rfl, ?_⟩) HSW ?_
          rotate_left
          · (intro w hSw; obtain ⟨hs0, hs1, hs2, hs3⟩ := hSw; go_simp; (try with_reducible rfl))
          (try simp only [Act.put]); (try simp only [List.setIfInBounds_toArray]); (try simp only [List.set_cons_succ]); (try simp only [List.set_cons_zero])
          refine anyT_take 5 [6, 8, 9, 10, 21, 22, 23, 24, 25] (v := ?_) rfl (by kernel_rfl) (fun _ _ _ h => h) (Or.inl ⟨by kernel_rfl, ?_⟩) HSW ?_
          rotate_left
          · (intro w hSw; obtain ⟨hs0, hs1, hs2, hs3⟩ := hSw; go_simp; (try with_reducible rfl))
          (try simp only [Act.put]); (try simp only [List.setIfInBounds_toArray]); (try simp only [List.set_cons_succ]); (try simp only [List.set_cons_zero])
          refine anyT_take 6 [8, 9, 10, 21, 22, 23, 24, 25] (v := ?_) rfl (by kernel_rfl) (fun _ _ _ h => h) (Or.inl ⟨by kernel_rfl, ?_⟩) HSW ?_
          rotate_left
          · (intro w hSw; obtain ⟨hs0, hs1, hs2, hs3⟩ := hSw; go_simp; (try with_reducible rfl))
          (try simp only [Act.put]); (try simp only [List.setIfInBounds_toArray]); (try simp only [List.set_cons_succ]); (try simp only [List.set_cons_zero])
          refine anyT_take 7 [8, 9, 10, 21, 22, 23, 24, 25] (v := ?_) rfl (by kernel_rfl) (fun _ _ _ h => h) (Or.inl ⟨by kernel_rfl, ?_⟩) HSW ?_
          rotate_left
          · (intro w hSw; obtain ⟨hs0, hs1, hs2, hs3⟩ := hSw; go_simp; (try with_reducible rfl))
          (try simp only [Act.put]); (try simp only [List.setIfInBounds_toArray]); (try simp only [List.set_cons_succ]); (try simp only [List.set_cons_zero])
          refine anyT_take 8 [9, 10, 21, 22, 23, 24, 25] (v := ?_) rfl (by kernel_rfl) (fun _ _ _ h => h) (Or.inl ⟨by kernel_rfl, ?_⟩) HSW ?_
          rotate_left
          · (intro w hSw; obtain ⟨hs0, hs1, hs2, hs3⟩ := hSw; go_simp; (try with_reducible rfl))
          (try simp only [Act.put]); (try simp only [List.setIfInBounds_toArray]); (try simp only [List.set_cons_succ]); (try simp only [List.set_cons_zero])
          refine anyT_take 9 [10, 21, 22, 23, 24, 25] (v := ?_) rfl (by kernel_rfl) (fun _ _ _ h => h) (Or.inl ⟨by kernel_rfl, ?_⟩) HSW ?_
          rotate_left
          · (intro w hSw; obtain ⟨hs0, hs1, hs2, hs3⟩ := hSw; go_simp; (try with_reducible rfl))
          (try simp only [Act.put]); (try simp only [List.setIfInBounds_toArray]); (try simp only [List.set_cons_succ]); (try simp only [List.set_cons_zero])
          refine anyT_take 10 [21, 22, 23, 24, 25] (v := ?_) rfl (by kernel_rfl) (fun _ _ _ h => h) (Or.inl ⟨by kernel_rfl, ?_⟩) HSW ?_
          rotate_left
          · (intro w hSw; obtain ⟨hs0, hs1, hs2, hs3⟩ := hSw; go_simp; (try with_reducible rfl))
          (try simp only [Act.put]); (try simp only [List.setIfInBounds_toArray]); (try simp only [List.set_cons_succ]); (try simp only [List.set_cons_zero])
          refine anyT_take 11 [13, 14, 15, 17, 18, 19, 20, 21, 22, 23, 24, 25] (v := ?_) rfl (by kernel_rfl) (fun _ _ _ h => h) (Or.inl ⟨by kernel_rfl, ?_⟩) HSW ?_
          rotate_left
          · (intro w hSw; obtain ⟨hs0, hs1, hs2, hs3⟩ := hSw; go_simp; (try with_reducible rfl))
          (try simp only [Act.put]); (try simp only [List.setIfInBounds_toArray]); (try simp only [List.set_cons_succ]); (try simp only [List.set_cons_zero])
          refine anyT_take 12 [13, 14, 15, 17, 18, 19, 20, 21, 22, 23, 24, 25] (v := ?_) rfl (by kernel_rfl) (fun _ _ _ h => h) (Or.inl ⟨by kernel_rfl, ?_⟩) HSW ?_
          rotate_left
          · (intro w hSw; obtain ⟨hs0, hs1, hs2, hs3⟩ := hSw; go_simp; (try with_reducible rfl))
          (try simp only [Act.put]); (try simp only [List.setIfInBounds_toArray]); (try simp only [List.set_cons_succ]); (try simp only [List.set_cons_zero])
          refine anyT_take 13 [14, 15, 17, 18, 19, 20, 21, 22, 23, 24, 25] (v := ?_) rfl (by kernel_rfl) (fun _ _ _ h => h) (Or.inl ⟨by kernel_rfl, ?_⟩) HSW ?_
          rotate_left
          · (intro w hSw; obtain ⟨hs0, hs1, hs2, hs3⟩ := hSw; go_simp; (try with_reducible rfl))
          (try simp only [Act.put]); (try simp only [List.setIfInBounds_toArray]); (try simp only [List.set_cons_succ]); (try simp only [List.set_cons_zero])
          refine anyT_take 14 [15, 17, 18, 19, 20, 21, 22, 23, 24, 25] (v := ?_) rfl (by kernel_rfl) (fun _ _ _ h => h) (Or.inl ⟨by kernel_rfl, ?_⟩) HSW ?_
          rotate_left
          · (intro w hSw; obtain ⟨hs0, hs1, hs2, hs3⟩ := hSw; go_simp; (try with_reducible rfl))
          (try simp only [Act.put]); (try simp only [List.setIfInBounds_toArray]); (try simp only [List.set_cons_succ]); (try simp only [List.set_cons_zero])
          refine anyT_take 15 [17, 18, 19, 20, 21, 22, 23, 24, 25] (v := ?_) rfl (by kernel_rfl) (fun _ _ _ h => h) (Or.inl ⟨by kernel_rfl, ?_⟩) HSW ?_
          rotate_left
          · (intro w hSw; obtain ⟨hs0, hs1, hs2, hs3⟩ := hSw; go_simp; (try with_reducible rfl))
          (try simp only [Act.put]); (try simp only [List.setIfInBounds_toArray]); (try simp only [List.set_cons_succ]); (try simp only [List.set_cons_zero])
          refine anyT_take 16 [17, 18, 19, 20, 21, 22, 23, 24, 25] (v := ?_) rfl (by kernel_rfl) (fun _ _ _ h => h) (Or.inl ⟨by kernel_rfl, ?_⟩) HSW ?_
          rotate_left
          · (intro w hSw; obtain ⟨hs0, hs1, hs2, hs3⟩ := hSw; go_simp; (try with_reducible rfl))
          (try simp only [Act.put]); (try simp only [List.setIfInBounds_toArray]); (try simp only [List.set_cons_succ]); (try simp only [List.set_cons_zero])
          refine anyT_take 17 [18, 19, 20, 21, 22, 23, 24, 25] (v := ?_) rfl (by kernel_rfl) (fun _ _ _ h => h) (Or.inl ⟨by kernel_rfl, ?_⟩) HSW ?_
          rotate_left
          · (intro w hSw; obtain ⟨hs0, hs1, hs2, hs3⟩ := hSw; go_simp; (try with_reducible rfl))
          (try simp only [Act.put]); (try simp only [List.setIfInBounds_toArray]); (try simp only [List.set_cons_succ]); (try simp only [List.set_cons_zero])
          refine anyT_take 18 [19, 20, 21, 22, 23, 24, 25] (v := ?_) rfl (by kernel_rfl) (fun _ _ _ h => h) (Or.inl ⟨by kernel_rfl, ?_⟩) HSW ?_
          rotate_left
          · (intro w hSw; obtain ⟨hs0, hs1, hs2, hs3⟩ := hSw; go_simp; (try with_reducible rfl))
          (try simp only [Act.put]); (try simp only [List.setIfInBounds_toArray]); (try simp only [List.set_cons_succ]); (try simp only [List.set_cons_zero])
          refine anyT_take 19 [20, 21, 22, 23, 24, 25] (v := ?_) rfl (by kernel_rfl) (fun _ _ _ h => h) (Or.inl ⟨by kernel_rfl, ?_⟩) HSW ?_
          rotate_left
          · (intro w hSw; obtain ⟨hs0, hs1, hs2, hs3⟩ := hSw; go_simp; (try with_reducible rfl))
          (try simp only [Act.put]); (try simp only [List.setIfInBounds_toArray]); (try simp only [List.set_cons_succ]); (try simp only [List.set_cons_zero])
          refine anyT_step 20 (by kernel_rfl) rfl (fun K hK => ?_)
          go_simp
          go_at_call 35
          (with_reducible refine (HCL.out _ HBD.out).mono ?_)
          rintro e w5 ⟨va, vn, vc, rfl, hq, hb⟩
          have HV := Lib.hid hq
          have HB5 : Hid (Below wo.heap.size wo w5) := Lib.hid (below_up HBR.out hb)
          have HX5 : Hid (w5.heap[b]? = some (.cells #[.int .i64 it.k, .int .i64 it.line, .slice ab an2 ac2] 66 (0, 0))) := Lib.hid ((hb.block b (row_lt HXD.out)).trans HXD.out)
          have HS5 := Lib.hid (HAS.out.over HQ.out hb)
          have HZ5 : Hid (wd.heap.size ≤ w5.heap.size) := Lib.hid hb.size
          have HSW := HSY.out _ HX5.out HB5.out
          clear hq hb
          try go_wp2_with fail
          refine hK.out _ _ (fun _ => HSW) ?_
          clear hK K
          (try simp only [Act.put]); (try simp only [List.setIfInBounds_toArray]); (try simp only [List.set_cons_succ]); (try simp only [List.set_cons_zero])
          refine anyT_take 21 [22, 23, 24, 25] (v := ?_) rfl (by kernel_rfl) (fun _ _ _ h => h) (Or.inl ⟨by kernel_rfl, ?_⟩) HSW ?_
          rotate_left
          · (intro w hSw; obtain ⟨hs0, hs1, hs2, hs3⟩ := hSw; go_simp; (try with_reducible rfl))
          (try simp only [Act.put]); (try simp only [List.setIfInBounds_toArray]); (try simp only [List.set_cons_succ]); (try simp only [List.set_cons_zero])
          refine anyT_step 22 (by kernel_rfl) rfl (fun K hK => ?_)
          go_simp
          have hb6 : Below w5.heap.size w5 (w5.alloc (.cells #[.int .i64 x.1, .slice va vn vc] 68)) := (Below.refl _ _).alloc (Nat.le_refl _) _
          have HS6 := Lib.hid (HS5.out.over HQ.out hb6)
          have HV6 := Lib.hid (HQ.out.moves _ _ _ _ _ _ HV.out (still_below hb6))
          have HB6 : Hid (Below wo.heap.size wo (w5.alloc (.cells #[.int .i64 x.1, .slice va vn vc] 68))) := Lib.hid (below_up HB5.out hb6)
          have HX6 := Lib.hid ((hb6.block b (row_lt HX5.out)).trans HX5.out)
          have HSRC : Hid (Src (w5.alloc (.cells #[.int .i64 x.1, .slice va vn vc] 68)) (.slice (some ⟨w5.heap.size, 0, none⟩) 1 1) 1 2 (acell (x, .slice va vn vc))) := Lib.hid (src_row (heap_alloc_new _ _) rfl rfl)
          have HZ6 : Hid (w5.heap.size ≤ (w5.alloc (.cells #[.int .i64 x.1, .slice va vn vc] 68)).heap.size) := Lib.hid hb6.size
          have HSW := HSY.out _ HX6.out HB6.out
          clear hb6
          refine hK.out _ _ (fun _ => HSW) ?_
          clear hK K
          (try simp only [Act.put]); (try simp only [List.setIfInBounds_toArray]); (try simp only [List.set_cons_succ]); (try simp only [List.set_cons_zero])
          refine anyT_step 23 (by kernel_rfl) rfl (fun K hK => ?_)
          refine step_ex rfl (.tmp 35) (.tmp 56) 64 rfl _ _ _ rfl rfl (ArmS.push HQ.out Tryd.underlying64 HI2.out.1 HI2.out.2.1 HI2.out.2.2.1 HI2.out.2.2.2 HS6.out HV6.out HZB.out HZ6.out (HAS.out.off (Nat.le_refl _)) HSRC.out han5 (by have := row_lt HX6.out; omega)) ?_
          intro b4 n4 cap4 w7 hp
          have HN4 := Lib.hid hp.1
          have HA7 := Lib.hid hp.2.1
          have HX7 := Lib.hid ((hp.2.2.block b (by omega)).trans HX6.out)
          have HB7 : Hid (Below wo.heap.size wo w7) := Lib.hid (HB6.out.trans (hp.2.2.mono (by have := HBZ.out; omega)))
          have HSW := HSY.out _ HX7.out HB7.out
          have k7 : w7.cell? ⟨b, 2, none⟩ = some (.slice ab an2 ac2) := HSW.1
          have z7 : w7.frozen? ⟨b, 2, none⟩ = false := frozen_of_row w7 b 2 _ _ HX7.out
          clear hp
          refine hK.out _ _ (fun _ => HSW) ?_
          clear hK K
          (try simp only [Act.put]); (try simp only [List.setIfInBounds_toArray]); (try simp only [List.set_cons_succ]); (try simp only [List.set_cons_zero])
          refine anyT_take 24 [25] (v := ?_) rfl (by kernel_rfl) (fun _ _ _ h => h) (Or.inl ⟨by kernel_rfl, ?_⟩) HSW ?_
          rotate_left
          · (intro w hSw; obtain ⟨hs0, hs1, hs2, hs3⟩ := hSw; go_simp; (try with_reducible rfl))
          (try simp only [Act.put]); (try simp only [List.setIfInBounds_toArray]); (try simp only [List.set_cons_succ]); (try simp only [List.set_cons_zero])
          refine anyT_step 25 (by kernel_rfl) rfl (fun K hK => ?_)
          go_simp
          refine hK.out _ _ (fun h => absurd rfl h) ?_
          clear hK K
          (try simp only [Act.put]); (try simp only [List.setIfInBounds_toArray]); (try simp only [List.set_cons_succ]); (try simp only [List.set_cons_zero])
          refine anyT_done (by kernel_rfl) ?_ _
          have HX8 : Hid ((w7.setCell ⟨b, 2, none⟩ (.slice (some ⟨b4, 0, none⟩) n4 cap4)).heap[b]? = some (.cells #[.int .i64 it.k, .int .i64 it.line, .slice (some ⟨b4, 0, none⟩) n4 cap4] 66 (0, 0))) := Lib.hid (heap_setCell_same w7 b 2 _ _ _ HX7.out)
          have HA8 := Lib.hid (HA7.out.set HQ.out (Nat.lt_succ_self b) 2 (.slice (some ⟨b4, 0, none⟩) n4 cap4))
          have HB8 : Hid (Below wo.heap.size wo (w7.setCell ⟨b, 2, none⟩ (.slice (some ⟨b4, 0, none⟩) n4 cap4))) := Lib.hid (HB7.out.setCell (by have := HBZ.out; show wo.heap.size ≤ b; omega) _)
          have hn48 : n4 ≤ 500000 := by
            have h1 := (HAI.out.done HQ.out).1
            rw [List.length_take] at h1
            have h2 := HN4.out
            have h3 := HSI.out.1
            have h4 := HAN.out
            omega
          obtain ⟨w8, hw8⟩ : ∃ w8, w7.setCell ⟨b, 2, none⟩ (.slice (some ⟨b4, 0, none⟩) n4 cap4) = w8 := ⟨_, rfl⟩
          rw [hw8] at HX8 HA8 HB8 ⊢
          clear hw8 k7 z7
          go_wp2
          go_roundw
          case rel => exact ⟨j + 1, some ⟨b4, 0, none⟩, n4, cap4, by go_num, hltj, hn48, HX8.out, by rw [take_more_raw HXJ.out]; exact HA8.out, HB8.out⟩
          case measure => simp [intOf]; omega
        · have f0 : wr.cell? ⟨b, 0, none⟩ = some (.int .i64 it.k) := by rw [Lib.cell_of_heap HXI.out]; rfl
          have f1 : wr.cell? ⟨b, 1, none⟩ = some (.int .i64 it.line) := by rw [Lib.cell_of_heap HXI.out]; rfl
          have hjI : ¬ (j : Int) < (an : Int) := by omega
          have HAD : Hid (ArmsP (Iv (b + 1) wr.heap.size) (Q (b + 1) wr.heap.size) it.arms (.slice ab an2 ac2) wr) := Lib.hid (by
            have h := (HAI.out.done HQ.out).2
            rw [List.take_of_length_le (by have := HAN.out; omega)] at h
            exact h)
          have HOW := Lib.hid (HO.out.over HQ.out HBI.out)
          have HOF : Hid (OffIv ob (b + 1) wr.heap.size) := Lib.hid (HO.out.off (by have := HBZ.out; omega))
          have HZ1 : Hid (w.heap.size ≤ b + 1) := Lib.hid (by have := HBZ.out; have := HB.out.size; omega)
          have HZ2 : Hid (w.heap.size ≤ wr.heap.size) := Lib.hid HWI.out.size
          go_wp2_with (at_builtin; refine wpList_append_ex rfl (.tmp 59) (.tmp 61) 42 rfl _ (OutS.pushV HQ.out Tryd.underlying42 HI1.out.1 HI1.out.2.1 HI1.out.2.2.1 HI1.out.2.2.2 (x := it) (v := .slice ab an2 ac2) (HOW.out.over HQ.out ((Below.refl _ _).alloc (Nat.le_refl _) _)) (HAD.out.moves (HQ.out.moves _ _) (still_below ((Below.refl _ _).alloc (Nat.le_refl _) _))) HZ1.out (by simp) HOF.out (src_row (heap_alloc_new _ _) rfl rfl) hon5 (by have := HZ2.out; simp; omega)) ?_; rintro v' w9 ⟨b9, n9, c9, rfl, hn9, ho9, hb9⟩; have HO9 := Lib.hid ho9; have HB9 : Hid (Below w.heap.size w w9) := Lib.hid ((HWI.out.alloc HZ2.out _).trans hb9); clear hn9 ho9 hb9)
          go_roundw
          case rel => exact ⟨k + 1, some ⟨b9, 0, none⟩, n9, c9, by go_num, hlt, rfl, by rw [take_more_raw HIT.out]; exact HO9.out, HB9.out⟩
          case measure => simp [intOf]; omega
    · have hD := Lib.hid (HO.out.done HQ.out)
      go_wp2
      go_ret
      obtain ⟨h1, h2⟩ := hD.out
      rw [List.take_of_length_le (by have := HN.out; omega)] at h2
      exact ⟨ob, on, oc, rfl, h2, HB.out⟩

theorem raw_any : ∀ (d : Nat) (l : List Itm) (v : Value) (w : World), ItsAt d l v w → SmallF d l → Calls Tryd.prog 35 #[v] w (CpPost_raw (fun lo hi => ItsP (Iv lo hi) d) w l)
  | 0, l, v, w, h, hs => by
    have h0 := its_fits 0 l v w h
    exact raw_step (Q := fun _ _ _ _ _ => False) (Sm := fun _ => True) (fun _ _ _ h => h.elim) (fun _ _ _ _ h _ => h.elim) good_none (fun _ _ _ h _ => h.elim) h hs fun it hit => ⟨by rw [h0 it hit]; exact Nat.zero_le _, fun _ _ => trivial⟩
  | d + 1, l, v, w, h, hs => raw_step (Q := fun lo hi => ItsP (Iv lo hi) d) (Sm := SmallF d) (itsAt_form d) (itsAt_over d) (good_its d) (fun l v w h hs => raw_any d l v w h hs) h hs.1 hs.2

end Go.Proofs.YtlnlpahmfpjjdaaDoor

/-
  GroupsRaw, walked, over what Flat, Depth and awake of the program answer.
-/
namespace Go.Proofs.YtlnlpahmfpjjdaaDoor
open Go.RowKit

/-- No deeper than it is. -/
theorem its_fit : ∀ (e d : Nat) (l : List Itm) (v : Value) (w : World), ItsAt d l v w → Fits e l → ItsAt e l v w
  | 0, d, l, v, w, h, hf => by
    have key : ∀ R : RelI, ItsOf R l v w → ItsOf (fun _ _ _ => False) l v w := fun R h => by
      obtain ⟨a, cap, hv, h1, h2, h3⟩ := h
      refine ⟨a, cap, hv, h1, h2, fun k it hit => ?_⟩
      obtain ⟨g, o, ha, hg, av, hc, a', cap', hv', h1', h2', -⟩ := h3 k it hit
      have hn := hf it (List.mem_of_getElem? hit)
      exact ⟨g, o, ha, hg, av, hc, a', cap', hv', h1', h2', fun j x hx => by rw [hn] at hx; simp at hx⟩
    cases d with
    | zero => exact h
    | succ d => exact key _ h
  | e + 1, d, l, v, w, h, hf => by
    have key : ∀ R : RelI, (∀ l v w, R l v w → Fits e l → ItsAt e l v w) → ItsOf R l v w → ItsOf (ItsAt e) l v w := fun R hR h => by
      obtain ⟨a, cap, hv, h1, h2, h3⟩ := h
      refine ⟨a, cap, hv, h1, h2, fun k it hit => ?_⟩
      obtain ⟨g, o, ha, hg, av, hc, a', cap', hv', h1', h2', h3'⟩ := h3 k it hit
      refine ⟨g, o, ha, hg, av, hc, a', cap', hv', h1', h2', fun j x hx => ?_⟩
      obtain ⟨g', o', ha', hg', iv, hc', hr⟩ := h3' j x hx
      exact ⟨g', o', ha', hg', iv, hc', hR _ _ _ hr (hf it (List.mem_of_getElem? hit) x (List.mem_of_getElem? hx))⟩
    cases d with
    | zero => exact key _ (fun _ _ _ h => h.elim) h
    | succ d => exact key _ (fun l v w h hf => its_fit e d l v w h hf) h
theorem light_fits : ∀ (d m : Nat) (l : List Itm) (dp : Nat), Fits d l → dp + m = 7 → lightF d l dp = true → Fits m l
  | 0, 0, l, dp, hf, _, _ => hf
  | 0, m + 1, l, dp, hf, _, _ => fun it hit a ha => by rw [hf it hit] at ha; cases ha
  | d + 1, 0, l, dp, _, hm, h => by
    obtain ⟨-, h2, -⟩ := lightL_is (G := lightF d) h
    omega
  | d + 1, m + 1, l, dp, hf, hm, h => by
    obtain ⟨-, -, h3⟩ := lightL_is (G := lightF d) h
    exact fun it hit a ha => light_fits d m a.2 (dp + 1) (hf it hit a ha) (by omega) ((h3 it hit).2 a ha)
theorem fits_up {d e : Nat} (hde : d ≤ e) {l : List Itm} (h : Fits d l) : Fits e l := by
  induction hde with
  | refl => exact h
  | step _ ih => exact fits_more _ _ ih
theorem flat_stable {d e : Nat} (hde : d ≤ e) {l : List Itm} (h : Fits d l) : flatF e l = flatF d l := by
  induction hde with
  | refl => rfl
  | step hde ih => rw [flat_more _ _ (fits_up hde h), ih]

/-- Light items, at a depth of seven. -/
theorem light_seven {d : Nat} {l : List Itm} {v : Value} {w : World} (h : ItsAt d l v w) (hl : lightF d l 0 = true) : Fits 7 l ∧ (flatF 7 l).length ≤ 17592186044416 := by
  have hf := its_fits d l v w h
  have h7 := light_fits d 7 l 0 hf rfl hl
  refine ⟨h7, ?_⟩
  have hb := light_big hl
  rcases Nat.le_total d 7 with hd | hd
  · rw [flat_stable hd hf]
    exact hb
  · rw [← flat_stable hd h7]
    exact hb

set_option maxRecDepth 100000 in
set_option maxHeartbeats 3200000 in
theorem raw_law {W : World} (hA : ∀ X : World, Below W.heap.size W X → Calls Tryd.prog 21 #[] X (TruePost X))
    (hFl : ∀ (l : List Itm) (v : Value) (X : World), Below W.heap.size W X → ItsAt 7 l v X → (flatF 7 l).length ≤ 17592186044416 → Calls Tryd.prog 30 #[v] X (FlatPost X (flatF 7 l)))
    (hDp : ∀ (l : List Itm) (v : Value) (X : World), Below W.heap.size W X → ItsAt 7 l v X → (flatF 7 l).length ≤ 17592186044416 → Calls Tryd.prog 32 #[v] X (IntNew ((deepF 7 l : Nat) : Int) X))
    {d : Nat} {l : List Itm} {v : Value} (h : ItsAt d l v W) : Calls Tryd.prog 9 #[v] W (TruePost W) := by
  obtain ⟨a, n, cap, rfl, -⟩ := itsAt_form d _ _ _ h
  have HL : Hid (Calls Tryd.prog 34 #[.slice a n cap, .int .i64 0] W (BoolPost (lightF d l 0) W)) := Lib.hid (light_any d l _ W 0 h (by omega))
  have HA := Lib.hid hA
  by_cases hl : lightF d l 0 = true
  · rw [hl] at HL
    obtain ⟨h7, hb⟩ := light_seven h hl
    have HR := Lib.hid (raw_any d l _ W h (light_small d l 0 hl))
    have HRF : Hid (∀ X : World, Below W.heap.size W X → Calls Tryd.prog 31 #[.slice a n cap] X (FlatPost X (flatF 7 l))) := Lib.hid (fun X b => rflat_any 7 l _ X (its_fit 7 d l _ X (itsAt_over d _ _ _ _ h b) h7) hb)
    have HRD : Hid (∀ X : World, Below W.heap.size W X → Calls Tryd.prog 33 #[.slice a n cap] X (NatPost (deepF 7 l) X)) := Lib.hid (fun X b => rdepth_any 7 l _ X (by omega) (its_fit 7 d l _ X (itsAt_over d _ _ _ _ h b) h7))
    have HFL := Lib.hid (fun v X b (hx : ItsAt 7 l v X) => hFl l v X b hx hb)
    have HDP := Lib.hid (fun v X b (hx : ItsAt 7 l v X) => hDp l v X b hx hb)
    have HDN : Hid (∀ v X, ItsP (Iv W.heap.size X.heap.size) d l v X → ItsAt 7 l v X) := Lib.hid (fun v X hp => its_fit 7 d l v X (itsP_at _ d l v X hp) h7)
    obtain ⟨N, hN⟩ : ∃ N : Int, ((deepF 7 l : Nat) : Int) = N := ⟨_, rfl⟩
    have HND : Hid (∀ X : World, Below W.heap.size W X → Calls Tryd.prog 33 #[.slice a n cap] X (fun e w' => e = .returned (.int .i64 N) ∧ X = w')) := Lib.hid (fun X b => (HRD.out X b).mono fun e w' ⟨h1, h2⟩ => ⟨by rw [h1, hN], h2⟩)
    rw [hN] at HDP
    have hk : (N == N) = true := by simp
    clear h hl h7 hb hA hFl hDp hN HRD
    go_enter Tryd.func9, Tryd.ntmps9
    go_wp2_with (first
      | (go_at_call 34; (with_reducible refine HL.out.mono ?_); rintro e w' ⟨rfl, rfl⟩)
      | (go_at_call 35; (with_reducible refine HR.out.mono ?_); rintro e w1 ⟨ra, rn, rc, rfl, hp, hb⟩; have HI1 := Lib.hid (HDN.out _ _ hp); have HB1 := Lib.hid hb; clear hp hb)
      | (go_at_call 30; (with_reducible refine (HFL.out _ _ HB1.out HI1.out).mono ?_); rintro e w2 ⟨fa, fn, fc, rfl, -, hu⟩; have HU2 := Lib.hid (ints_read hu); have HB2 := Lib.hid (below_up HB1.out hu.2); have HI2 := Lib.hid (itsAt_over 7 _ _ _ _ HI1.out hu.2); clear hu)
      | (go_at_call 31; (with_reducible refine (HRF.out _ HB2.out).mono ?_); rintro e w3 ⟨ga, gn, gc, rfl, -, hu⟩; have HS3 := Lib.hid (ints_any (HU2.out.over hu.2) (ints_read hu)); have HB3 := Lib.hid (below_up HB2.out hu.2); have HI3 := Lib.hid (itsAt_over 7 _ _ _ _ HI2.out hu.2); clear hu)
      | (go_at_call 29; (with_reducible refine HS3.out.mono ?_); rintro e w4 ⟨rfl, hb⟩; have HB4 := Lib.hid (below_up HB3.out hb); have HI4 := Lib.hid (itsAt_over 7 _ _ _ _ HI3.out hb); clear hb)
      | (go_at_call 32; (with_reducible refine (HDP.out _ _ HB4.out HI4.out).mono ?_); rintro e w5 ⟨rfl, hb⟩; have HB5 := Lib.hid (below_up HB4.out hb); clear hb)
      | (go_at_call 33; (with_reducible refine (HND.out _ HB5.out).mono ?_); rintro e w6 ⟨rfl, rfl⟩)
      | (go_at_call 21; (with_reducible refine (HA.out _ HB5.out).mono ?_); rintro e w7 ⟨rfl, hb⟩; have HB7 := Lib.hid (below_up HB5.out hb); clear hb))
    go_ret
    exact ⟨rfl, HB7.out⟩
  · have hl' : lightF d l 0 = false := by simpa using hl
    rw [hl'] at HL
    clear h hl hl' hA hFl hDp
    go_enter Tryd.func9, Tryd.ntmps9
    go_wp2_with (first
      | (go_at_call 34; (with_reducible refine HL.out.mono ?_); rintro e w' ⟨rfl, rfl⟩)
      | (go_at_call 21; (with_reducible refine (HA.out _ (Below.refl _ _)).mono ?_); rintro e w7 ⟨rfl, hb⟩; have HB7 := Lib.hid hb; clear hb))
    go_ret
    exact ⟨rfl, HB7.out⟩

end Go.Proofs.YtlnlpahmfpjjdaaDoor
