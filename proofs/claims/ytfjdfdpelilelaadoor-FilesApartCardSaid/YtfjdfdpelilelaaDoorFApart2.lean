/-
  FilesApart: the walk, of few short texts.
-/
import Derived.Test.YtfjdfdpelilelaaDoorFApart
namespace Go.Proofs.YtfjdfdpelilelaaDoor
open Go.RowKit

set_option maxRecDepth 100000 in
set_option maxHeartbeats 12800000 in
theorem apart_main {a : Option Addr} {cap : Nat} (xs : List (List UInt8)) (at' : Int) (m : ByteArray) (W : World) (hS : StrsAt a xs W) (hn1 : 1 ≤ xs.length) (hn2 : xs.length ≤ 20) (hsh : shortB xs 1000 = true) (hm : m.size ≤ 100) :
    Calls Tryd.prog 5 #[.slice a xs.length cap, .int .i64 at', .string m] W fun e w' => e = .returned (.bool true) ∧ Below W.heap.size W w' := by
  have hnot := not_run
  have hsum : ∀ x ∈ xs, x.length ≤ 1000 := fun x hx => by
    unfold shortB at hsh
    simp only [Bool.and_eq_true, decide_eq_true_eq] at hsh
    have := sumLen_mem hx
    omega
  have hsk := short_any (cap := cap) xs W hS 1000 (by decide) (by omega) (fun x hx => by have := hsum x hx; omega)
  rw [hsh] at hsk
  have HSH := Lib.hid hsk
  have HS := Lib.hid hS
  have HX := Lib.hid hsum
  have h0i : ((xs.length : Int) == 0) = false := by rw [beq_eq_false_iff_ne]; omega
  have h20i : ¬ ((20 : Int) < (xs.length : Int)) := by omega
  have h100 : ¬ ((100 : Int) < (m.size : Int)) := by omega
  clear hsk hS hsum hsh
  go_enter Tryd.func5, Tryd.ntmps5
  go_wp2_with fail
  refine HSH.out.mono ?_
  rintro e w' ⟨rfl, rfl⟩
  go_wp2_with fail
  refine (newNone2 W).mono ?_
  rintro e w1 ⟨p, rfl, l1⟩
  have L1 := Lib.hid l1
  clear l1
  go_wp2_with fail
  go_loopw [9] (ApartRel W p xs) (fun i _ => xs.length - (intOf i).toNat)
  case atStart => exact ⟨0, _, _, rfl, Nat.zero_le _, apart_start xs, L1.out⟩
  case round =>
    obtain ⟨k, M, t, rfl, hk, hst, hls⟩ := hrel
    have ST := Lib.hid hst
    have L := Lib.hid hls
    clear hst hls L1
    by_cases hlt : k < xs.length
    · have hk60 : k < 60 := by omega
      have HNM := Lib.hid (fun w => name_any k hk60 w)
      obtain ⟨x, hx⟩ : ∃ x, xs[k]? = some x := ⟨_, List.getElem?_eq_getElem hlt⟩
      obtain ⟨ad, had, hadl, hcell0⟩ := HS.out k x hx
      subst had
      have hxl := HX.out x (List.mem_of_getElem? hx)
      obtain ⟨b, hb⟩ : ∃ b : ByteArray, (⟨x.toArray⟩ : ByteArray) = b := ⟨_, rfl⟩
      rw [hb] at hcell0
      have hbx : b.data.toList = x := by rw [← hb]
      have hbs : b.size ≤ 1000 := by
        have : b.size = x.length := by rw [← hbx]; simp
        omega
      have HCW := Lib.hid (fun X (h : Below W.heap.size W X) => (h.cell (p := ad.add k) (by rw [add_block]; exact hadl)).trans hcell0)
      have hcw := HCW.out wr L.out.ended
      have hnf := ST.out.not k (Nat.le_refl _) hk60
      have HCR := Lib.hid (fun X (l : LS W p t k M X) => l.create (nameS k) b (by rw [nameS_size]; decide) (name_valid k hk60) hnf.1 (by rw [nameS_list, hnf.2]; decide) (by omega) (by omega) (by have := ST.out.few; omega))
      rw [hbx] at HCR
      have HXK := Lib.hid hx
      have hki : (0 : Int) ≤ (k : Int) := by omega
      have hkn : (k : Int) < (xs.length : Int) := by omega
      clear hnf hcell0 hb hbx hx
      go_wp2
      go_region_held3 (fun w' => w'.cell? (ad.add k) = some (.string b))
        (first | go_keep)
        (first
          | (go_at_call 15; refine (HNM.out _).mono ?_; rintro e w2 ⟨rfl, b2⟩
             have L2 : Hid (LS W p t k M w2) := ?_
             rotate_left
             · refine Lib.hid (LS.below ?_ b2); (repeat (with_reducible apply LS.drew)); (with_reducible exact L.out)
             have k2 := HCW.out w2 L2.out.ended
             clear b2)
          | (go_at_call 11; refine (HCR.out w2 L2.out).mono ?_; rintro e w3 ⟨rfl, M3, t3, b3, o3, ho, d3, l3⟩; have k3 := HCW.out w3 l3.ended; have L3 := Lib.hid l3; have D3 := Lib.hid d3; have HO := Lib.hid ho; clear l3 d3 ho))
      all_goals
        go_wp2
        go_roundw
        case rel => exact ⟨k + 1, M3, t3, by go_num, hlt, apart_step ST.out hk60 HXK.out D3.out HO.out, L3.out⟩
        case measure => simp [intOf]; omega
    · have hge : ¬ ((k : Int) < (xs.length : Int)) := by omega
      obtain rfl : k = xs.length := by omega
      go_wp2_with fail
      refine (round_any at' xs.length hn1 (by omega) _).mono ?_
      rintro e w' ⟨⟨i, hi, rfl⟩, rfl⟩
      have hi60 : i < 60 := by omega
      have HNM := Lib.hid (fun w => name_any i hi60 w)
      obtain ⟨x, hx⟩ : ∃ x, xs[i]? = some x := ⟨_, List.getElem?_eq_getElem hi⟩
      obtain ⟨ad, had, hadl, hcell0⟩ := HS.out i x hx
      subst had
      have hxl := HX.out x (List.mem_of_getElem? hx)
      obtain ⟨b, hb⟩ : ∃ b : ByteArray, (⟨x.toArray⟩ : ByteArray) = b := ⟨_, rfl⟩
      rw [hb] at hcell0
      have hbx : b.data.toList = x := by rw [← hb]
      have hbs : b.size = x.length := by rw [← hbx]; simp
      have HCW := Lib.hid (fun X (h : Below W.heap.size W X) => (h.cell (p := ad.add i) (by rw [add_block]; exact hadl)).trans hcell0)
      obtain ⟨fb, fo, hf1, hf2, hf3⟩ := ST.out.has i x hi hx
      have HF1 := Lib.hid hf1
      have HF2 := Lib.hid hf2
      have HF3 := Lib.hid hf3
      have HBX := Lib.hid hbx
      have HBS := Lib.hid hbs
      have HXI := Lib.hid hx
      clear hf1 hf2 hf3 hbx hbs hx hb hcell0
      go_wp2_with fail
      refine (HNM.out _).mono ?_
      rintro e w2 ⟨rfl, b2⟩
      have L2 := Lib.hid (L.out.below b2)
      clear b2
      have kg := get_any L2.out.ft (nameS i) (by rw [nameS_size]; decide)
      rw [nameS_list, HF1.out] at kg
      have KG := Lib.hid kg
      clear kg
      go_wp2_with fail
      refine KG.out.mono ?_
      rintro e w' ⟨rfl, rfl⟩
      have R0 : Hid (LR W p t xs.length M w2 fb fo) := Lib.hid ⟨L2.out, L2.out.ft.file_rope HF1.out⟩
      simp only [txtPtr, Option.map_some, Option.isSome_some]
      have hii : (0 : Int) ≤ (i : Int) := by omega
      have hin : (i : Int) < (xs.length : Int) := by omega
      have hcw := HCW.out w2 L2.out.ended
      go_wp2
      go_region_held3 (fun w' => w'.cell? (ad.add i) = some (.string b))
        (first | go_keep)
        (first
          | (go_at_call 15; refine (HNM.out _).mono ?_; rintro e x1 ⟨rfl, b1⟩
             have RA : Hid (LR W p t xs.length M x1 fb fo) := ?_
             rotate_left
             · refine Lib.hid (LR.below ?_ b1); (repeat (with_reducible apply LR.drew)); (with_reducible exact R0.out)
             have k1 := HCW.out x1 RA.out.ls.ended
             clear b1)
          | (go_at_call 18; (with_reducible refine (ap_ins1 RA.out HF1.out (by rw [HF3.out]; decide) HF2.out (by omega) m hm).mono ?_); rintro e x4 ⟨rfl, M4, t4, b4, o4, hq4, d4, l4⟩; have k4 := HCW.out x4 l4.ls.ended; have hv4 := d4.self.2; rw [HF3.out] at hv4; have V4 := Lib.hid hv4; have L4 := Lib.hid l4; have D4 := Lib.hid d4; have Q4 := Lib.hid hq4; clear l4 d4 hq4 hv4)
          | (go_at_call 15; refine (HNM.out _).mono ?_; rintro e x5 ⟨rfl, b5⟩
             have RB : Hid (LR W p t4 xs.length M4 x5 fb fo) := ?_
             rotate_left
             · refine Lib.hid (LR.below ?_ b5); (repeat (with_reducible apply LR.drew)); (with_reducible exact L4.out)
             have k5 := HCW.out x5 RB.out.ls.ended
             clear b5)
          | (go_at_call 22; (with_reducible refine (ap_del RB.out D4.out.self.1 (by rw [V4.out]; decide) m Q4.out).mono ?_); rintro e x6 ⟨rfl, M6, t6, b6, o6, hq6, d6, l6⟩; have hv6 := d6.self.2; rw [V4.out] at hv6; have V6 := Lib.hid hv6; have k6 := HCW.out x6 l6.ls.ended; have L6 := Lib.hid l6; have D6 := Lib.hid d6; have Q6 := Lib.hid hq6; clear l6 d6 hq6 hv6)
          | (go_at_call 15; refine (HNM.out _).mono ?_; rintro e x7 ⟨rfl, b7⟩
             have RC : Hid (LR W p t6 xs.length M6 x7 fb fo) := ?_
             rotate_left
             · refine Lib.hid (LR.below ?_ b7); (repeat (with_reducible apply LR.drew)); (with_reducible exact L6.out)
             have k7 := HCW.out x7 RC.out.ls.ended
             clear b7)
          | (go_at_call 18; (with_reducible refine (ap_ins2 RC.out D6.out.self.1 (by rw [V6.out]; decide) Q6.out (by omega) b HBS.out m hm).mono ?_); rintro e x8 ⟨rfl, M8, t8, b8, o8, hq8, d8, l8⟩; have hv8 := d8.self.2; rw [V6.out] at hv8; have V8 := Lib.hid hv8; have k8 := HCW.out x8 l8.ls.ended; have L8 := Lib.hid l8; have D8 := Lib.hid d8; have Q8 := Lib.hid hq8; clear l8 d8 hq8 hv8))
      have HALL := Lib.hid (apart_all (m := m.data.toList) ST.out hn2 hi HXI.out D4.out D6.out D8.out V8.out Q8.out)
      have RF : Hid (RP M8 x8 (some ⟨fb, 0, none⟩) fo) := Lib.hid L8.out.rp
      go_wp2
      go_loopw [13] (Apart2Rel W p t8 xs.length M8 fb fo xs.length) (fun i _ => xs.length - (intOf i).toNat)
      case atStart => exact ⟨0, rfl, Nat.zero_le _, L8.out⟩
      case round =>
        obtain ⟨j, rfl, hj, hls⟩ := hrel
        have LJ := Lib.hid hls
        clear hls
        by_cases hjl : j < xs.length
        · have hj60 : j < 60 := by omega
          have hjc : (j : Int) < (xs.length : Int) := by omega
          have HNJ := Lib.hid (fun w => name_any j hj60 w)
          obtain ⟨y, hy⟩ : ∃ y, xs[j]? = some y := ⟨_, List.getElem?_eq_getElem hjl⟩
          obtain ⟨ad2, had2, hadl2, hcell2⟩ := HS.out j y hy
          obtain ⟨bj, oj, h1, h2, h3⟩ := HALL.out j y hjl hy
          have hyl := HX.out y (List.mem_of_getElem? hy)
          obtain ⟨z, hz⟩ : ∃ z : ByteArray, (⟨y.toArray⟩ : ByteArray) = z := ⟨_, rfl⟩
          rw [hz] at hcell2
          have hzy : z.data.toList = y := by rw [← hz]
          have hzs : z.size = y.length := by rw [← hzy]; simp
          have HCJ := Lib.hid (fun X (h : Below W.heap.size W X) => (h.cell (p := ad2.add j) (by rw [add_block]; exact hadl2)).trans hcell2)
          obtain rfl : ad2 = ad := by simpa using had2.symm
          have hcat := catFits (a := z) (b := m) (by omega)
          have HG := Lib.hid (fun X (l : LR W p t8 xs.length M8 X fb fo) => (show Calls Tryd.prog 21 #[.pointer (some ⟨p, 0, none⟩), .string (nameS j)] X fun e w' => e = .returned (.tuple #[.pointer (some ⟨bj, 0, none⟩), .bool true]) ∧ X = w' from by
            have := get_any l.ls.ft (nameS j) (by rw [nameS_size]; decide)
            rw [nameS_list, h1] at this
            exact this))
          by_cases hji : j = i
          · obtain ⟨g1, g2⟩ := h2 hji
            have hjii : ((j : Int) == (i : Int)) = true := by rw [beq_iff_eq]; omega
            have HT := Lib.hid (fun X (l : LR W p t8 xs.length M8 X fb fo) => (show Calls Tryd.prog 23 #[.pointer (some ⟨bj, 0, none⟩)] X fun e w' => e = .returned (.string (z ++ m)) ∧ LR W p t8 xs.length M8 w' fb fo from by
              have := text_any l.ls.ft.inv (l.ls.ft.file_rope h1)
              rw [g1, ← hzy, bytes_cat] at this
              exact this.mono fun e w' ⟨he, hs⟩ => ⟨he, l.step hs⟩))
            have HV := Lib.hid (fun X (l : LR W p t8 xs.length M8 X fb fo) => (show Calls Tryd.prog 20 #[.pointer (some ⟨p, 0, none⟩), .string (nameS j)] X fun e w' => e = .returned (.int .i64 4) ∧ X = w' from by
              have := version_any l.ls.ft (nameS j) (by rw [nameS_size]; decide)
              rw [nameS_list, g2] at this
              exact this))
            clear g1 g2 h1 h2 h3 hz hzy hy hcell2 hji
            go_wp2_with (first
              | (go_at_call 15; (with_reducible refine (HNJ.out wr).mono ?_); rintro e y1 ⟨rfl, v1⟩; have A1 := Lib.hid (LJ.out.below v1); have c1 := HCJ.out y1 A1.out.ls.ended; clear v1)
              | (go_at_call 21; (with_reducible refine (HG.out y1 A1.out).mono ?_); rintro e w' ⟨rfl, rfl⟩)
              | (go_at_call 23; (with_reducible refine (HT.out y1 A1.out).mono ?_); rintro e y2 ⟨rfl, l2⟩; have A2 := Lib.hid l2; clear l2)
              | (go_at_call 15; (with_reducible refine (HNJ.out y2).mono ?_); rintro e y3 ⟨rfl, v3⟩; have A3 := Lib.hid (A2.out.below v3); clear v3)
              | (go_at_call 20; (with_reducible refine (HV.out y3 A3.out).mono ?_); rintro e w' ⟨rfl, rfl⟩))
            go_roundw
            case rel => exact ⟨j + 1, by go_num, hjl, A3.out⟩
            case measure => simp [intOf]; omega
          · obtain ⟨g1, g2⟩ := h3 hji
            have hjii : ((j : Int) == (i : Int)) = false := by rw [beq_eq_false_iff_ne]; omega
            have HT := Lib.hid (fun X (l : LR W p t8 xs.length M8 X fb fo) => (show Calls Tryd.prog 23 #[.pointer (some ⟨bj, 0, none⟩)] X fun e w' => e = .returned (.string z) ∧ LR W p t8 xs.length M8 w' fb fo from by
              have := text_any l.ls.ft.inv (l.ls.ft.file_rope h1)
              rw [g1, ← hzy, bytes_list] at this
              exact this.mono fun e w' ⟨he, hs⟩ => ⟨he, l.step hs⟩))
            have HV := Lib.hid (fun X (l : LR W p t8 xs.length M8 X fb fo) => (show Calls Tryd.prog 20 #[.pointer (some ⟨p, 0, none⟩), .string (nameS j)] X fun e w' => e = .returned (.int .i64 1) ∧ X = w' from by
              have := version_any l.ls.ft (nameS j) (by rw [nameS_size]; decide)
              rw [nameS_list, g2] at this
              exact this))
            clear g1 g2 h1 h2 h3 hz hzy hy hcell2 hji hcat
            go_wp2_with (first
              | (go_at_call 15; (with_reducible refine (HNJ.out wr).mono ?_); rintro e y1 ⟨rfl, v1⟩; have A1 := Lib.hid (LJ.out.below v1); have c1 := HCJ.out y1 A1.out.ls.ended; clear v1)
              | (go_at_call 21; (with_reducible refine (HG.out y1 A1.out).mono ?_); rintro e w' ⟨rfl, rfl⟩)
              | (go_at_call 23; (with_reducible refine (HT.out y1 A1.out).mono ?_); rintro e y2 ⟨rfl, l2⟩; have A2 := Lib.hid l2; clear l2)
              | (go_at_call 15; (with_reducible refine (HNJ.out y2).mono ?_); rintro e y3 ⟨rfl, v3⟩; have A3 := Lib.hid (A2.out.below v3); clear v3)
              | (go_at_call 20; (with_reducible refine (HV.out y3 A3.out).mono ?_); rintro e w' ⟨rfl, rfl⟩))
            go_roundw
            case rel => exact ⟨j + 1, by go_num, hjl, A3.out⟩
            case measure => simp [intOf]; omega
        · have hge2 : ¬ ((j : Int) < (xs.length : Int)) := by omega
          have HT := Lib.hid (fun X (l : LR W p t8 xs.length M8 X fb fo) => (show Calls Tryd.prog 23 #[.pointer (some ⟨fb, 0, none⟩)] X fun e w' => e = .returned (.string b) ∧ LR W p t8 xs.length M8 w' fb fo from by
            have := text_any l.ls.ft.inv l.rp
            rw [HF2.out, ← HBX.out, bytes_list] at this
            exact this.mono fun e w' ⟨he, hs⟩ => ⟨he, l.step hs⟩))
          have hcwr := HCW.out wr LJ.out.ls.ended
          go_wp2
          go_region_held3 (fun w' => w'.cell? (ad.add i) = some (.string b))
            (first | go_keep)
            (first
              | (go_at_call 23; refine (HT.out _ ?_).mono ?_
                 · (repeat (with_reducible apply LR.drew)); (with_reducible exact LJ.out)
                 rintro e y2 ⟨rfl, l2⟩
                 have k2 := HCW.out y2 l2.ls.ended
                 have A2 := Lib.hid l2
                 clear l2)
              | (go_at_call 9; refine (fAwake_any _).mono ?_; rintro e y3 ⟨rfl, v3⟩
                 have A3 : Hid (LR W p t8 xs.length M8 y3 fb fo) := ?_
                 rotate_left
                 · refine Lib.hid (LR.below ?_ v3); (repeat (with_reducible apply LR.drew)); (with_reducible exact A2.out)
                 have k3 := HCW.out y3 A3.out.ls.ended
                 clear v3))
          all_goals go_wp2
          all_goals go_ret
          all_goals exact ⟨rfl, A3.out.ls.ended⟩

theorem apart_every {a : Option Addr} {cap : Nat} (xs : List (List UInt8)) (at' : Int) (m : ByteArray) (W : World) (hS : StrsAt a xs W) (hlen : xs.length ≤ 9223372036854775807) (hb : ∀ x ∈ xs, x.length ≤ 9223372036854775807) (_ : m.size ≤ maxLen) :
    Calls Tryd.prog 5 #[.slice a xs.length cap, .int .i64 at', .string m] W fun e w' => e = .returned (.bool true) ∧ Below W.heap.size W w' := by
  by_cases h : xs.length = 0 ∨ 20 < xs.length ∨ shortB xs 1000 = false ∨ 100 < m.size
  · exact apartVoid xs at' m W hS hlen hb h
  · refine apart_main xs at' m W hS (by omega) (by omega) ?_ (by omega)
    cases hs : shortB xs 1000 with
    | true => rfl
    | false => exact absurd (.inr (.inr (.inl hs))) h

end Go.Proofs.YtfjdfdpelilelaaDoor
