/-
  FilesFull: the walk.
-/
import Derived.Test.YtfjdfdpelilelaaDoorFName
import Derived.Test.YtfjdfdpelilelaaDoorFNames
import Derived.Test.YtfjdfdpelilelaaDoorZeros
namespace Go.Proofs.YtfjdfdpelilelaaDoor
open Go.RowKit

def otherL : List UInt8 := [111, 116, 104, 101, 114]

/-- m files of one text, each made once. -/
structure FullSt (m : Nat) (t : Tab) : Prop where
  has : ∀ j, j < m → ∃ b o, t.file (nameL j) = some (b, o) ∧ osize o = 4 ∧ t.ver (nameL j) = 1
  not : ∀ j, m ≤ j → j < 60 → t.file (nameL j) = none ∧ t.ver (nameL j) = 0
  other : t.file otherL = none ∧ t.ver otherL = 0
  cnt : t.count = m
  few : t.ents.length ≤ m

theorem full_start : FullSt 0 (tab0 []) := ⟨fun j hj => by omega, fun _ _ _ => ⟨rfl, rfl⟩, ⟨rfl, rfl⟩, rfl, Nat.le_refl _⟩

theorem name_ne_other : ∀ i, i < 60 → otherL ≠ nameL i := by decide

theorem full_step {m : Nat} {t t' : Tab} (h : FullSt m t) (hm : m < 60) {b : Nat} {o : Option T} (d : Did t t' (nameL m) (some (b, o))) (ho : osize o = 4) : FullSt (m + 1) t' := by
  have hn := h.not m (Nat.le_refl _) hm
  refine ⟨fun j hj => ?_, fun j hj hj2 => ?_, ?_, ?_, ?_⟩
  · by_cases e : j = m
    · subst e
      obtain ⟨s1, s2⟩ := d.self
      exact ⟨b, o, s1, ho, by rw [s2, hn.2]⟩
    · obtain ⟨b', o', h1, h2, h3⟩ := h.has j (by omega)
      obtain ⟨s1, s2⟩ := d.other (k := nameL j) fun x => e (name_inj (by omega) hm x)
      exact ⟨b', o', by rw [s1, h1], h2, by rw [s2, h3]⟩
  · obtain ⟨s1, s2⟩ := d.other (k := nameL j) fun x => by have := name_inj hj2 hm x; omega
    rw [s1, s2]
    exact h.not j (by omega) hj2
  · obtain ⟨s1, s2⟩ := d.other (k := otherL) (name_ne_other m hm)
    rw [s1, s2]
    exact h.other
  · have := d.cnt
    rw [hn.1, h.cnt] at this
    simpa using this
  · have := d.len
    have := h.few
    omega

theorem fullVoid (n : Int) (g : Int) (W : World) (h : n < 0 ∨ 53 < n) :
    Calls Tryd.prog 4 #[.int .i64 n, .int .i64 g] W fun e w' => e = .returned (.bool true) ∧ Below W.heap.size W w' := by
  rcases h with h | h
  · go_enter Tryd.func4, Tryd.ntmps4
    go_wp2_with (go_at_call 9; refine (fAwake_any _).mono ?_; rintro e w' ⟨rfl, hb⟩)
    go_ret
    exact ⟨rfl, hb⟩
  · have h2 : ¬ n < 0 := by omega
    go_enter Tryd.func4, Tryd.ntmps4
    go_wp2_with (go_at_call 9; refine (fAwake_any _).mono ?_; rintro e w' ⟨rfl, hb⟩)
    go_ret
    exact ⟨rfl, hb⟩

theorem newNone (W : World) : Calls Tryd.prog 10 #[.slice none 0 0] W fun e w' =>
    ∃ p, e = .returned (.tuple #[.pointer (some ⟨p, 0, none⟩), .int .i64 0]) ∧ LS W p (tab0 []) 0 (fun _ => none) w' := by
  refine (newDirs_any (cap := 0) [] W (fun i x hx => by simp at hx) (by decide) (by decide)).mono fun e w' hp => ?_
  rcases hp with ⟨-, v, he, hst⟩ | ⟨hn, -⟩
  · exact ⟨_, he, LS.made (Below.refl _ _) (Nat.le_refl _) hst.tbl hst.own hst.below⟩
  · exact absurd hn (by decide)

def FullRel (W : World) (p : Nat) (n : Nat) (i : Value) (wr : World) : Prop :=
  ∃ (k : Nat) (M : Mp) (t : Tab), i = .int .i64 (k : Int) ∧ k ≤ n ∧ FullSt (min k 50) t ∧ LS W p t (min k 50) M wr

def FullRel2 (W : World) (p : Nat) (t : Tab) (c : Nat) (M : Mp) (m : Nat) (i : Value) (wr : World) : Prop :=
  ∃ k : Nat, i = .int .i64 (k : Int) ∧ k ≤ m ∧ LS W p t c M wr

def textS : ByteArray := ⟨#[116, 101, 120, 116]⟩

theorem LS.size {W : World} {p : Nat} {t : Tab} {c : Nat} {M : Mp} {w : World} (h : LS W p t c M w) : W.heap.size ≤ w.heap.size := h.ks.size

set_option maxRecDepth 100000 in
set_option maxHeartbeats 3200000 in
theorem full_main (n : Nat) (hn : n ≤ 53) (g : Int) (W : World) :
    Calls Tryd.prog 4 #[.int .i64 (n : Int), .int .i64 g] W fun e w' => e = .returned (.bool true) ∧ Below W.heap.size W w' := by
  have hnot := not_run
  have h1 : ¬ ((n : Int) < 0) := by omega
  have h2 : ¬ (53 < (n : Int)) := by omega
  go_enter Tryd.func4, Tryd.ntmps4
  go_wp2_with fail
  refine (newNone W).mono ?_
  rintro e w1 ⟨p, rfl, l1⟩
  have L1 := Lib.hid l1
  clear l1
  go_wp2_with fail
  go_loopw [7] (FullRel W p n) (fun i _ => n - (intOf i).toNat)
  case atStart => exact ⟨0, _, _, rfl, Nat.zero_le _, full_start, L1.out⟩
  case round =>
    obtain ⟨k, M, t, rfl, hk, hst, hls⟩ := hrel
    have ST := Lib.hid hst
    have L := Lib.hid hls
    clear hst hls L1
    by_cases hlt : k < n
    · have hk60 : k < 60 := by omega
      have HNM := Lib.hid (fun w => name_any k hk60 w)
      have hsz := nameS_size k
      by_cases h50 : k < 50
      · have h50i : ¬ ((50 : Int) ≤ (k : Int)) := by omega
        have hmin : min k 50 = k := by omega
        rw [hmin] at ST L
        have hnf := ST.out.not k (Nat.le_refl _) hk60
        have HCR := Lib.hid (fun X (l : LS W p t k M X) => l.create (nameS k) textS (by rw [nameS_size]; decide) (name_valid k hk60) hnf.1 (by rw [nameS_list, hnf.2]; decide) h50 (by decide) (by have := ST.out.few; omega))
        clear hmin hnf hsz
        unfold textS at HCR
        go_wp2_with (first
          | (go_at_call 15; refine (HNM.out _).mono ?_; rintro e w2 ⟨rfl, b2⟩; have L2 := Lib.hid (L.out.below b2); clear b2)
          | (go_at_call 11; refine (HCR.out w2 L2.out).mono ?_; rintro e w3 ⟨rfl, M3, t3, b3, o3, ho, d3, l3⟩; have L3 := Lib.hid l3; have D3 := Lib.hid d3; have HO := Lib.hid ho; clear l3 d3 ho))
        go_roundw
        case rel =>
          refine ⟨k + 1, M3, t3, by go_num, hlt, ?_, ?_⟩
          · rw [show min (k + 1) 50 = k + 1 from by omega]
            exact full_step ST.out hk60 D3.out (by rw [osize_eq, HO.out]; rfl)
          · rw [show min (k + 1) 50 = k + 1 from by omega]
            exact L3.out
        case measure => simp [intOf]; omega
      · have h50i : (50 : Int) ≤ (k : Int) := by omega
        have hmin : min k 50 = 50 := by omega
        rw [hmin] at ST L
        have hnf := ST.out.not k (by omega) hk60
        have HCR := Lib.hid (fun X (l : LS W p t 50 M X) => create_full l.ft (nameS k) textS (by rw [nameS_size]; decide) (name_valid k hk60) hnf.1 (Nat.le_refl _))
        clear hmin hnf hsz
        unfold textS at HCR
        go_wp2_with (first
          | (go_at_call 15; refine (HNM.out _).mono ?_; rintro e w2 ⟨rfl, b2⟩; have L2 := Lib.hid (L.out.below b2); clear b2)
          | (go_at_call 11; refine (HCR.out w2 L2.out).mono ?_; rintro e w3 ⟨rfl, b3⟩; have L3 := Lib.hid (L2.out.below b3); clear b3))
        go_roundw
        case rel =>
          refine ⟨k + 1, M, t, by go_num, hlt, ?_, ?_⟩
          · rw [show min (k + 1) 50 = 50 from by omega]
            exact ST.out
          · rw [show min (k + 1) 50 = 50 from by omega]
            exact L3.out
        case measure => simp [intOf]; omega
    · have hge : ¬ ((k : Int) < (n : Int)) := by omega
      obtain rfl : k = n := by omega
      obtain ⟨m, hm⟩ : ∃ m, min k 50 = m := ⟨_, rfl⟩
      rw [hm] at ST L
      have hmi : min (k : Int) 50 = (m : Int) := by omega
      have hm50 : m ≤ 50 := by omega
      have HMZ : Hid (k = 0 ↔ m = 0) := Lib.hid (by omega)
      clear hm
      go_wp2_with fail
      refine (names_any L.out.ft).mono ?_
      rintro e w2 ⟨a, nn, cap, rfl, hnn, -, b2⟩
      rw [ST.out.cnt] at hnn
      subst hnn
      have L2 := Lib.hid (L.out.below b2)
      clear b2
      by_cases hz : k = 0
      · have hzi : (((k : Nat) : Int) == 0) = true := by rw [beq_iff_eq]; omega
        go_wp2_with (go_at_call 9; refine (fAwake_any _).mono ?_; rintro e w' ⟨rfl, hb⟩; have HB := Lib.hid (L2.out.ended.trans (hb.mono L2.out.size)); clear hb)
        go_ret
        exact ⟨rfl, HB.out⟩
      · have hzi : (((k : Nat) : Int) == 0) = false := by rw [beq_eq_false_iff_ne]; omega
        have hm1 : 1 ≤ nn := by have := HMZ.out; omega
        go_wp2_with fail
        refine (round_any g nn hm1 (by omega) _).mono ?_
        rintro e w' ⟨⟨i, hi, rfl⟩, rfl⟩
        have hi60 : i < 60 := by omega
        have HNM := Lib.hid (fun w => name_any i hi60 w)
        obtain ⟨fb, fo, hf1, hf2, hf3⟩ := ST.out.has i hi
        have HF1 := Lib.hid hf1
        have HF2 := Lib.hid hf2
        have HF3 := Lib.hid hf3
        clear hf1 hf2 hf3
        go_wp2_with fail
        refine (HNM.out _).mono ?_
        rintro e w3 ⟨rfl, b3⟩
        have L3 := Lib.hid (L2.out.below b3)
        clear b3
        have k4 := insert_file L3.out.ft (nameS i) (by rw [nameS_size]; decide) (b := fb) (o := fo) HF1.out (by rw [nameS_list, HF3.out]; decide) 2 ⟨#[120]⟩ (by rw [HF2.out]; decide) (by rw [HF2.out]; decide)
        have K4 := Lib.hid k4
        clear k4
        go_wp2_with fail
        refine K4.out.mono ?_
        intro e w4 q4
        obtain ⟨rfl, M4, t4, b4, o4, ⟨ho4, -⟩, d4, l4⟩ := L3.out.edit q4
        rw [nameS_list] at d4
        have hs4 : osize o4 = 5 := by
          rw [osize_eq, ho4, List.length_append, List.length_append, List.length_take, List.length_drop, ← osize_eq, HF2.out]
          rfl
        have L4 := Lib.hid l4
        have D4 := Lib.hid d4
        have S4 := Lib.hid hs4
        clear q4 ho4 d4 l4 hs4
        go_wp2_with fail
        refine (HNM.out _).mono ?_
        rintro e w5 ⟨rfl, b5⟩
        have L5 := Lib.hid (L4.out.below b5)
        clear b5
        have k6 := insert_file_no L5.out.ft (nameS i) (by rw [nameS_size]; decide) (b := b4) (o := o4) D4.out.self.1 9 ⟨#[120]⟩ (by rw [S4.out]; decide)
        have K6 := Lib.hid k6
        clear k6
        go_wp2_with fail
        refine K6.out.mono ?_
        rintro e w6 ⟨rfl, b6⟩
        have L6 := Lib.hid (L5.out.below b6)
        clear b6
        go_wp2_with fail
        refine (HNM.out _).mono ?_
        rintro e w7 ⟨rfl, b7⟩
        have L7 := Lib.hid (L6.out.below b7)
        clear b7
        obtain ⟨c, rfl⟩ : ∃ c, nn = c + 1 := ⟨nn - 1, by omega⟩
        have k8 := remove_some L7.out.ft (nameS i) (by rw [nameS_size]; decide) D4.out.self.1 (by rw [nameS_list, D4.out.self.2, HF3.out]; decide) (by omega)
        have K8 := Lib.hid k8
        clear k8
        go_wp2_with fail
        refine K8.out.mono ?_
        intro e w8 q8
        obtain ⟨rfl, M8, t8, x8, rfl, d8, l8⟩ := L7.out.post q8
        rw [nameS_list] at d8
        have L8 := Lib.hid l8
        have D8 := Lib.hid d8
        clear q8 d8 l8
        go_wp2_with fail
        refine (HNM.out _).mono ?_
        rintro e w9 ⟨rfl, b9⟩
        have L9 := Lib.hid (L8.out.below b9)
        clear b9
        have k10 := remove_none L9.out.ft (nameS i) (by rw [nameS_size]; decide) D8.out.self.1
        have K10 := Lib.hid k10
        clear k10
        go_wp2_with fail
        refine K10.out.mono ?_
        rintro e w' ⟨rfl, rfl⟩
        have o4 := D4.out.other (k := otherL) (name_ne_other i hi60)
        have o8 := D8.out.other (k := otherL) (name_ne_other i hi60)
        have hlen8 : t8.ents.length ≤ 100 := by
          have := D4.out.len
          have := D8.out.len
          have := ST.out.few
          omega
        have k11 := L9.out.create ⟨#[111, 116, 104, 101, 114]⟩ ⟨#[]⟩ (by decide) (by decide) ((o8.1.trans o4.1).trans ST.out.other.1) (by rw [show (⟨#[111, 116, 104, 101, 114]⟩ : ByteArray).data.toList = otherL from rfl, o8.2.trans o4.2, ST.out.other.2]; decide) (by omega) (by decide) (by omega)
        have K11 := Lib.hid k11
        have hov : t8.ver otherL = 0 := (o8.2.trans o4.2).trans ST.out.other.2
        have HOV := Lib.hid hov
        clear k11 o4 o8 hlen8 hov
        go_wp2_with fail
        refine K11.out.mono ?_
        rintro e w11 ⟨rfl, M11, t11, b11, o11, -, d11, l11⟩
        have hver : ∀ j, j < c + 1 → t11.ver (nameL j) = if j = i then 3 else 1 := fun j hj => by
          have hj60 : j < 60 := by omega
          rw [(d11.other (k := nameL j) (Ne.symm (name_ne_other j hj60))).2]
          by_cases e : j = i
          · subst e
            rw [if_pos rfl, D8.out.self.2, D4.out.self.2, HF3.out]
          · rw [if_neg e, (D8.out.other (k := nameL j) fun x => e (name_inj hj60 hi60 x)).2, (D4.out.other (k := nameL j) fun x => e (name_inj hj60 hi60 x)).2]
            obtain ⟨_, _, _, _, h⟩ := ST.out.has j hj
            exact h
        have hvo : t11.ver otherL = 1 := by
          rw [show otherL = (⟨#[111, 116, 104, 101, 114]⟩ : ByteArray).data.toList from rfl, d11.self.2]
          show t8.ver otherL + 1 = 1
          rw [HOV.out]
        have HVER := Lib.hid hver
        have HVO := Lib.hid hvo
        have L11 := Lib.hid l11
        clear hver hvo d11 l11
        obtain ⟨q, hq⟩ : ∃ q, c + 1 = q := ⟨_, rfl⟩
        rw [hq] at HVER L11 hmi hi hm50
        clear hq HMZ hm1 L L2 L3 L4 L5 L6 L7 L8 L9 K4 K6 K8 K10 K11 D4 D8 S4 ST HOV HF1 HF2 HF3
        go_wp2_with fail
        go_loopw [10] (FullRel2 W p t11 q M11 q) (fun i _ => q - (intOf i).toNat)
        case atStart => exact ⟨0, rfl, Nat.zero_le _, L11.out⟩
        case round =>
          obtain ⟨j, rfl, hj, hls⟩ := hrel
          have LJ := Lib.hid hls
          clear hls
          by_cases hjl : j < q
          · have hj60 : j < 60 := by omega
            have hjc : (j : Int) < (q : Int) := by omega
            have HNJ := Lib.hid (fun w => name_any j hj60 w)
            have hv := HVER.out j hjl
            by_cases hji : j = i
            · rw [if_pos hji] at hv
              subst hji
              have HVV := Lib.hid (fun X (l : LS W p t11 q M11 X) => (show Calls Tryd.prog 20 #[.pointer (some ⟨p, 0, none⟩), .string (nameS j)] X fun e w' => e = .returned (.int .i64 3) ∧ X = w' from by
                have := version_any l.ft (nameS j) (by rw [nameS_size]; decide)
                rw [nameS_list, hv] at this
                exact this))
              clear hv
              go_wp2_with (first
                | (go_at_call 15; (with_reducible refine (HNJ.out _).mono ?_); rintro e x2 ⟨rfl, y2⟩; have LJ2 := Lib.hid (LJ.out.below y2); clear y2)
                | (go_at_call 20; (with_reducible refine (HVV.out x2 LJ2.out).mono ?_); rintro e w' ⟨rfl, rfl⟩))
              go_roundw
              case rel => exact ⟨j + 1, by go_num, hjl, LJ2.out⟩
              case measure => simp [intOf]; omega
            · rw [if_neg hji] at hv
              have hjii : ((j : Int) == (i : Int)) = false := by rw [beq_eq_false_iff_ne]; omega
              have HVV := Lib.hid (fun X (l : LS W p t11 q M11 X) => (show Calls Tryd.prog 20 #[.pointer (some ⟨p, 0, none⟩), .string (nameS j)] X fun e w' => e = .returned (.int .i64 1) ∧ X = w' from by
                have := version_any l.ft (nameS j) (by rw [nameS_size]; decide)
                rw [nameS_list, hv] at this
                exact this))
              clear hv
              go_wp2_with (first
                | (go_at_call 15; (with_reducible refine (HNJ.out _).mono ?_); rintro e x2 ⟨rfl, y2⟩; have LJ2 := Lib.hid (LJ.out.below y2); clear y2)
                | (go_at_call 20; (with_reducible refine (HVV.out x2 LJ2.out).mono ?_); rintro e w' ⟨rfl, rfl⟩))
              go_roundw
              case rel => exact ⟨j + 1, by go_num, hjl, LJ2.out⟩
              case measure => simp [intOf]; omega
          · have hjc : ¬ ((j : Int) < (q : Int)) := by omega
            have kv := version_any LJ.out.ft ⟨#[111, 116, 104, 101, 114]⟩ (by decide)
            rw [show (⟨#[111, 116, 104, 101, 114]⟩ : ByteArray).data.toList = otherL from rfl, HVO.out] at kv
            have KV := Lib.hid kv
            clear kv
            go_wp2_with fail
            refine KV.out.mono ?_
            rintro e w' ⟨rfl, rfl⟩
            rw [show ((1 : Nat) : Int) = 1 from rfl]
            go_wp2_with fail
            refine (fAwake_any _).mono ?_
            rintro e w' ⟨rfl, hb⟩
            have HB := Lib.hid (LJ.out.ended.trans (hb.mono LJ.out.size))
            clear hb
            go_wp2_with fail
            go_ret
            exact ⟨rfl, HB.out⟩

theorem full_all (n g : Int) (W : World) : Calls Tryd.prog 4 #[.int .i64 n, .int .i64 g] W fun e w' => e = .returned (.bool true) ∧ Below W.heap.size W w' := by
  by_cases h : n < 0 ∨ 53 < n
  · exact fullVoid n g W h
  · have := full_main n.toNat (by omega) g W
    rw [Int.toNat_of_nonneg (by omega)] at this
    exact this

end Go.Proofs.YtfjdfdpelilelaaDoor
