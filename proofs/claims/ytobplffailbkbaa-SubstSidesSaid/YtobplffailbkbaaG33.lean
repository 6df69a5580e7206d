/-
  Texts of the proof, put together: SuC, SuZ.
-/
import Derived.Test.YtobplffailbkbaaG32
import Derived.Lib.AppendStr
import Derived.Lib.ConvBytes
import Derived.Laws.IdiomCopy

/-
  The parts of a body: the project's parts, walked.
-/
namespace Go.Proofs.Ytobplffailbkbaa
open Go.RowKit Go.Maps

theorem Try.infoPart : (Try.prog.info? 83).map (fun i => (i.zero, i.size, i.bytes)) = some (some (.agg #[.bool false, .string ⟨#[]⟩, .int .i64 0, .int .i64 0, .slice none 0 0, .int .i64 0]), 6, 72) := by kernel_rfl

def ptCell (p : Pt × Value) : List Value := [.bool p.1.p, .string p.1.g, .int .i64 p.1.f, .int .i64 p.1.t, p.2, .int .i64 p.1.o]
def Off (al : Option Addr) (g : Nat) : Prop := al ≠ some ⟨g, 0, none⟩
/-- Parts in a row of the call's own; their tokens elsewhere. -/
structure PR (W : World) (qs : List Pt) (al : Option Addr) (nl cl : Nat) (w : World) : Prop where
  list : ∃ V : List (Pt × Value), V.map Prod.fst = qs ∧ w.ownsRow W.heap.size 83 6 (.slice al nl cl) nl (V.flatMap ptCell) ∧ ∀ p ∈ V, (∃ a n c, p.2 = .slice a n c ∧ (a = none → c = 0)) ∧ HeldIn (Off al) w (ToksX p.1.T p.2)
  bel : Below W.heap.size W w

theorem PR.nil (W : World) : PR W [] none 0 0 W := ⟨⟨[], rfl, (up_nil W _ 6).1, fun _ h => by cases h⟩, Below.refl _ _⟩

theorem PR.over {W : World} {qs : List Pt} {al : Option Addr} {nl cl : Nat} {w w' : World} (h : PR W qs al nl cl w) (b : Below w.heap.size w w') : PR W qs al nl cl w' := by
  obtain ⟨⟨V, hV, ho, hv⟩, hb⟩ := h
  exact ⟨⟨V, hV, own_same ho fun g hg => b.block g (World.ownsRow.lt ho g hg).2, fun p hp => ⟨(hv p hp).1, (hv p hp).2.over (StillB.of_below b)⟩⟩, below_up hb b⟩

theorem PR.len {W : World} {qs : List Pt} {al : Option Addr} {nl cl : Nat} {w : World} (h : PR W qs al nl cl w) : nl = qs.length := by
  obtain ⟨⟨V, hV, ho, hv⟩, hb⟩ := h
  have := ho.1
  rw [flat_len (n := 6) (fun _ => rfl)] at this
  rw [← hV, List.length_map]
  omega

/-- What was made behind it, or was there ahead of all. -/
theorem PR.free {W : World} {qs : List Pt} {al : Option Addr} {nl cl : Nat} {w w' : World} (h : PR W qs al nl cl w) {R : World → Prop} (hR : HeldIn (OldNew W w) w' R) : HeldIn (Off al) w' R := by
  obtain ⟨⟨V, hV, ho, hv⟩, hb⟩ := h
  refine hR.mono fun g hg _ e => ?_
  have := World.ownsRow.lt ho g (by rw [e]; rfl)
  rcases hg with hg | hg
  · omega
  · omega

theorem PR.push {W : World} {qs : List Pt} {al : Option Addr} {nl cl : Nat} {w : World} {ty : TypeId} (h : PR W qs al nl cl w) {q : Pt} {b0 : Option Addr} {n0 c0 : Nat} {sv : Value} (hv : HeldIn (Off al) w (ToksX q.T (.slice b0 n0 c0))) (hz : b0 = none → c0 = 0) (hs : Src w sv 1 6 (ptCell (q, .slice b0 n0 c0))) (hn : nl ≤ 999999) :
    ∃ b n' cap w', (Builtin.append_ #[80, 80] ty #[.slice al nl cl, sv]).run Try.prog w = .ok (.slice (some ⟨b, 0, none⟩) n' cap) w' ∧ n' = nl + 1 ∧ PR W (qs ++ [q]) (some ⟨b, 0, none⟩) n' cap w' := by
  obtain ⟨⟨V, hV, ho, hvs⟩, hb⟩ := h
  obtain ⟨i0, hi, hz0, hz1, hz2⟩ := info_parts Try.infoPart
  obtain ⟨b, cap, w', hr, h2, hg, h4⟩ := own_app (ty := ty) Try.underlying80 hi hz0 hz1 hz2 rfl (by decide) (by decide) ho hs (by
    intro u hu
    simp only [ptCell, List.mem_cons, List.not_mem_nil, or_false] at hu
    rcases hu with rfl | rfl | rfl | rfl | rfl | rfl <;> rfl) (by omega) (by omega) hb.size
  have tr : ∀ R, HeldIn (Off al) w R → HeldIn (Off (some ⟨b, 0, none⟩)) w' R := fun R hR => (hot_grown (Q := fun _ => True) ho hg h4 (hR.mono fun g hg _ => ⟨hg, trivial⟩)).mono fun g hg _ => hg.1
  refine ⟨b, _, cap, w', hr, rfl, ⟨⟨V ++ [(q, .slice b0 n0 c0)], by rw [List.map_append, hV]; rfl, by rw [List.flatMap_append]; simpa using h2, fun p hp => ?_⟩, hb.grown hg hb.size fun k hk => (World.ownsRow.lt ho k hk).1⟩⟩
  rcases List.mem_append.1 hp with hp | hp
  · exact ⟨(hvs p hp).1, tr _ (hvs p hp).2⟩
  · simp only [List.mem_cons, List.not_mem_nil, or_false] at hp
    subst hp
    exact ⟨⟨_, _, _, rfl, hz⟩, tr _ hv⟩

/-- A part's array of one. -/
theorem src_part (w : World) (q : Pt) (tv : Value) : Src (w.alloc (.cells #[.bool q.p, .string q.g, .int .i64 q.f, .int .i64 q.t, tv, .int .i64 q.o] 83)) (.slice (some ⟨w.heap.size, 0, none⟩) 1 1) 1 6 (ptCell (q, tv)) := by
  refine .inr ⟨_, 1, rfl, rfl, fun j u hj => ?_⟩
  rw [addr_add, Lib.cell_of_heap (heap_alloc_new w _)]
  unfold ptCell at hj
  match j, hj with
  | 0, hj => exact hj
  | 1, hj => exact hj
  | 2, hj => exact hj
  | 3, hj => exact hj
  | 4, hj => exact hj
  | 5, hj => exact hj
  | j + 6, hj => simp at hj

/-- A part more, behind a call that made it. -/
theorem PR.more {W X w : World} {qs : List Pt} {al : Option Addr} {nl cl : Nat} {ty : TypeId} {q : Pt} {a : Option Addr} {n c : Nat} (h : PR W qs al nl cl X) (hz : a = none → c = 0) (hh : HeldIn (OldNew W X) w (ToksX q.T (.slice a n c))) (hb : Below X.heap.size X w) (hn : nl ≤ 999999) :
    ∃ b n' cap w', (Builtin.append_ #[80, 80] ty #[.slice al nl cl, .slice (some ⟨w.heap.size, 0, none⟩) 1 1]).run Try.prog (w.alloc (.cells #[.bool q.p, .string q.g, .int .i64 q.f, .int .i64 q.t, .slice a n c, .int .i64 q.o] 83)) = .ok (.slice (some ⟨b, 0, none⟩) n' cap) w' ∧ n' = nl + 1 ∧ PR W (qs ++ [q]) (some ⟨b, 0, none⟩) n' cap w' :=
  PR.push ((h.over hb).over ((Below.refl _ _).alloc (Nat.le_refl _) _)) ((h.free hh).over (StillB.of_below ((Below.refl _ _).alloc (Nat.le_refl _) _))) hz (src_part w q _) hn

def PartsPost (W : World) (qs : List Pt) (e : Ending) (w' : World) : Prop := ∃ al nl cl, e = .returned (.slice al nl cl) ∧ PR W qs al nl cl w'
def PartRel (m : Xm) (A B : List (List Xt)) (S : List Xs) (W : World) (n : Nat) (t3 t4 : Value) (wr : World) : Prop :=
  ∃ (i : Nat) (qs : List Pt) (al : Option Addr) (nl cl : Nat), t4 = .int .i64 (i : Int) ∧ t3 = .slice al nl cl ∧ i ≤ n ∧ nl ≤ i ∧ PR W qs al nl cl wr ∧ qs ++ partA m A B S i = partL m A B S

theorem snoc_app {α : Type} {l r : List α} {a : α} {x : List α} (h : l ++ x = r) (hx : x = a :: x.tail) : (l ++ [a]) ++ x.tail = r := by
  rw [List.append_assoc, List.singleton_append, ← hx]
  exact h

set_option maxRecDepth 100000 in
set_option maxHeartbeats 12800000 in
theorem parts_any {m : Xm} {A B : List (List Xt)} {S : List Xs} {bv : Value} {mo : Option Nat} {rv fv sv : Value} {g : Nat} {W : World} (h : SB m A B S bv mo rv fv sv g W) (hz : Szd m) (hA : AOk A) (hB : AOk B) :
    Calls Try.prog 31 #[.pointer (some ⟨g, 0, none⟩)] W (PartsPost W (partL m A B S)) := by
  obtain ⟨a, n, cap, rfl⟩ := h.toks.form
  obtain ⟨hn, hc1, hc2⟩ := h.toks.len
  unfold maxLen at hc2
  have hn5 : n ≤ 100000 := by rw [hn]; exact hz.1
  have H := Lib.hid h
  have HZ := Lib.hid hz
  have HA := Lib.hid hA
  have HB := Lib.hid hB
  have HN := Lib.hid hn
  clear h hz hA hB hn
  go_enter Try.func31, Try.ntmps31
  go_wp2
  go_loopw [3, 4] (fun t3 t4 wr => PartRel m A B S W n t3 t4 wr) (fun _ t4 _ => n - (intOf t4).toNat)
  case atStart => exact ⟨0, [], none, 0, 0, rfl, rfl, Nat.zero_le _, Nat.le_refl _, PR.nil W, by rw [partA_zero]; rfl⟩
  case round =>
    obtain ⟨i, qs, al, nl, cl, rfl, rfl, hin, hnl, hP, hq⟩ := hrel
    have HP := Lib.hid hP
    have hbel := hP.bel
    have HBL := Lib.hid hbel
    have HX := H.out.over hbel
    obtain ⟨k0, -, -, -, -⟩ := HX.cells
    have hnl6 : nl ≤ 999999 := by omega
    by_cases hlt : i < n
    · obtain ⟨t, ht⟩ : ∃ t, m.bd[i]? = some t := ⟨_, List.getElem?_eq_getElem (by rw [← HN.out]; exact hlt)⟩
      have hst := partA_step m A B S ht
      obtain ⟨b, o, sa, sn, sc, rfl, hg, -, ⟨c0, c1, c2, c3, c4, c5, c6, c7⟩, -⟩ := HX.toks.get ht
      have HQ := Lib.hid hq
      have hI : (i : Int) < (n : Int) := by omega
      have hI0 : (0 : Int) ≤ (i : Int) := by omega
      have HSP : Hid (∀ Y : World, Below wr.heap.size wr Y → Calls Try.prog 48 #[.pointer (some ⟨g, 0, none⟩), .int .i64 (i : Int)] Y (BoolNew (pasteX t) Y)) := Lib.hid (fun Y hY => by
        have := spaste_any (HX.over hY) (i : Int)
        have e : pasZ m (i : Int) = pasteX t := by
          rw [← pasI_at ht]
          unfold pasZ
          simp
        rw [e] at this
        exact this)
      have K0 := Lib.hid k0
      have KG := Lib.hid HX.lt
      have KB := Lib.hid hg
      have C3 := Lib.hid c3
      have C4 := Lib.hid c4
      have C5 := Lib.hid c5
      have CC := Lib.hid (show TokX t (.slice sa sn sc) b (o + i * 8) wr from ⟨c0, c1, c2, c3, c4, c5, c6, c7⟩)
      cases hp : pasteX t with
      | true =>
        rw [hp] at HSP
        have HE : Hid ((qs ++ [pasteP t]) ++ partA m A B S (i + 1) = partL m A B S) := Lib.hid (by
          rw [hp, if_pos rfl] at hst
          rw [← HQ.out, hst]
          simp)
        clear hst hq HX ht hp hP hbel
        go_wp2_with (first
          | (go_at_call 48; (with_reducible refine (HSP.out _ (Below.refl _ _)).mono ?_); rintro e w1 ⟨rfl, hb1⟩; have HB1 := Lib.hid hb1; have u0 := bcell hb1 K0.out KG.out; have u3 := bcell hb1 C3.out KB.out; have u4 := bcell hb1 C4.out KB.out; have u5 := bcell hb1 C5.out KB.out; clear hb1)
          | (at_builtin; refine wpList_append_sl rfl (.tmp 30) (.tmp 40) 80 rfl _ (PR.more (q := pasteP t) (a := none) (n := 0) (c := 0) HP.out (fun _ => rfl) (fun Y _ => toksX_nil Y) HB1.out hnl6) ?_; intro b9 n9 c9 w9 h9; (obtain ⟨rfl, h9⟩ := h9); have HP9 := Lib.hid h9; clear h9))
        go_roundw
        case rel => exact ⟨i + 1, _, _, _, _, by go_num, rfl, hlt, by omega, HP9.out, HE.out⟩
        case measure => simp [intOf]; omega
      | false =>
        rw [hp] at HSP
        rw [hp, if_neg (by simp)] at hst
        have HSH : Hid (∀ Y : World, Below wr.heap.size wr Y → Calls Try.prog 49 #[.pointer (some ⟨g, 0, none⟩), .int .i64 (i : Int)] Y (BoolNew (hashI m i) Y)) := Lib.hid (fun Y hY => shash_any (HX.over hY) HZ.out (by rw [← HN.out]; exact hlt))
        cases hh : hashI m i with
        | true =>
          rw [hh] at HSH
          rw [hh, if_pos rfl] at hst
          have hpk : 0 ≤ parI m (i + 1) := by
            have e := hashI_at ht
            rw [hh] at e
            have e2 := (Bool.and_eq_true _ _ ▸ e.symm : hashX t = true ∧ decide (0 ≤ parI m (i + 1)) = true).2
            simpa using e2
          have hi2 : i + 2 ≤ n := by
            rcases Nat.lt_or_ge (i + 1) n with h2 | h2
            · omega
            · rw [parI_no (by rw [← HN.out]; exact h2)] at hpk
              exact absurd hpk (by decide)
          have HTX : Hid (∀ Y : World, Below wr.heap.size wr Y → Calls Try.prog 50 #[.pointer (some ⟨g, 0, none⟩), .int .i64 (i : Int)] Y (PtPost W Y (textP A t (parI m (i + 1)) S))) := Lib.hid (fun Y hY => text_part H.out (below_up HBL.out hY) HZ.out HA.out ht hpk)
          have HE : Hid ((qs ++ [textP A t (parI m (i + 1)) S]) ++ partA m A B S (i + 1 + 1) = partL m A B S) := Lib.hid (by
            rw [← HQ.out, hst]
            simp)
          obtain ⟨q, hqq⟩ : ∃ q, textP A t (parI m (i + 1)) S = q := ⟨_, rfl⟩
          rw [hqq] at HTX HE
          clear hst hq HX ht hp hP hbel hh hpk hqq
          go_wp2_with (first
            | (go_at_call 48; (with_reducible refine (HSP.out _ (Below.refl _ _)).mono ?_); rintro e w1 ⟨rfl, hb1⟩; have HB1 := Lib.hid hb1; clear hb1)
            | (go_at_call 49; (with_reducible refine (HSH.out _ HB1.out).mono ?_); rintro e w2 ⟨rfl, hb2⟩; have HB2 := Lib.hid (below_up HB1.out hb2); clear hb2)
            | (go_at_call 50; (with_reducible refine (HTX.out _ HB2.out).mono ?_); rintro e w3 ⟨a3, n3, c3, rfl, hz3, -, hh3, hb3⟩; have HZ3 := Lib.hid hz3; have HH3 := Lib.hid hh3; have HB3 := Lib.hid hb3; clear hz3 hh3 hb3; simp only [ptV])
            | (at_builtin; refine wpList_append_sl rfl (.tmp 46) (.tmp 50) 80 rfl _ (PR.more (q := q) (HP.out.over HB2.out) HZ3.out HH3.out HB3.out hnl6) ?_; intro b9 n9 c9 w9 h9; (obtain ⟨rfl, h9⟩ := h9); have HP9 := Lib.hid h9; clear h9))
          go_roundw
          case rel => exact ⟨i + 1 + 1, _, _, _, _, by go_num, rfl, by omega, by omega, HP9.out, HE.out⟩
          case measure => simp [intOf]; omega
        | false =>
          rw [hh] at HSH
          rw [hh, if_neg (by simp)] at hst
          have HPM : Hid (∀ Y : World, Below wr.heap.size wr Y → Calls Try.prog 36 #[.pointer (some ⟨g, 0, none⟩), .int .i64 (i : Int)] Y (IntNew (parI m i) Y)) := Lib.hid (fun Y hY => param_any (HX.over hY) HZ.out i)
          by_cases hk : 0 ≤ parI m i
          · rw [if_pos hk] at hst
            have HAG : Hid (∀ Y : World, Below wr.heap.size wr Y → Calls Try.prog 51 #[.pointer (some ⟨g, 0, none⟩), .int .i64 (i : Int)] Y (PtPost W Y (argP (if rawI m i then A else B) t (parI m i)))) := Lib.hid (fun Y hY => arg_part H.out (below_up HBL.out hY) HZ.out HA.out HB.out ht hk)
            have HE : Hid ((qs ++ [argP (if rawI m i then A else B) t (parI m i)]) ++ partA m A B S (i + 1) = partL m A B S) := Lib.hid (by
              rw [← HQ.out, hst]
              simp)
            obtain ⟨q, hqq⟩ : ∃ q, argP (if rawI m i then A else B) t (parI m i) = q := ⟨_, rfl⟩
            rw [hqq] at HAG HE
            obtain ⟨k, hkk⟩ : ∃ k, parI m i = k := ⟨_, rfl⟩
            rw [hkk] at HPM hk
            clear hst hq HX ht hp hP hbel hh hqq hkk
            go_wp2_with (first
              | (go_at_call 48; (with_reducible refine (HSP.out _ (Below.refl _ _)).mono ?_); rintro e w1 ⟨rfl, hb1⟩; have HB1 := Lib.hid hb1; clear hb1)
              | (go_at_call 49; (with_reducible refine (HSH.out _ HB1.out).mono ?_); rintro e w2 ⟨rfl, hb2⟩; have HB2 := Lib.hid (below_up HB1.out hb2); clear hb2)
              | (go_at_call 36; (with_reducible refine (HPM.out _ HB2.out).mono ?_); rintro e w4 ⟨rfl, hb4⟩; have HB4 := Lib.hid (below_up HB2.out hb4); clear hb4)
              | (go_at_call 51; (with_reducible refine (HAG.out _ HB4.out).mono ?_); rintro e w3 ⟨a3, n3, c3, rfl, hz3, -, hh3, hb3⟩; have HZ3 := Lib.hid hz3; have HH3 := Lib.hid hh3; have HB3 := Lib.hid hb3; clear hz3 hh3 hb3; simp only [ptV])
              | (at_builtin; refine wpList_append_sl rfl (.tmp 59) (.tmp 63) 80 rfl _ (PR.more (q := q) (HP.out.over HB4.out) HZ3.out HH3.out HB3.out hnl6) ?_; intro b9 n9 c9 w9 h9; (obtain ⟨rfl, h9⟩ := h9); have HP9 := Lib.hid h9; clear h9))
            go_roundw
            case rel => exact ⟨i + 1, _, _, _, _, by go_num, rfl, hlt, by omega, HP9.out, HE.out⟩
            case measure => simp [intOf]; omega
          · rw [if_neg hk] at hst
            have HOW : Hid (∀ Y : World, Below wr.heap.size wr Y → Calls Try.prog 52 #[.pointer (some ⟨g, 0, none⟩), .agg #[.int .i64 t.k, .string t.x, .bool t.sp, .string t.g, .int .i64 t.f, .int .i64 t.t, .bool t.d, .slice sa sn sc], .bool false] Y (PtPost W Y (ownP t false S))) := Lib.hid (fun Y hY => own_part H.out (below_up HBL.out hY) t sa sn sc false)
            have HE : Hid ((qs ++ [ownP t false S]) ++ partA m A B S (i + 1) = partL m A B S) := Lib.hid (by
              rw [← HQ.out, hst]
              simp)
            obtain ⟨q, hqq⟩ : ∃ q, ownP t false S = q := ⟨_, rfl⟩
            rw [hqq] at HOW HE
            obtain ⟨k, hkk⟩ : ∃ k, parI m i = k := ⟨_, rfl⟩
            rw [hkk] at HPM hk
            clear hst hq HX ht hp hP hbel hh hqq hkk
            go_wp2_with (first
              | (go_at_call 48; (with_reducible refine (HSP.out _ (Below.refl _ _)).mono ?_); rintro e w1 ⟨rfl, hb1⟩; have HB1 := Lib.hid hb1; clear hb1)
              | (go_at_call 49; (with_reducible refine (HSH.out _ HB1.out).mono ?_); rintro e w2 ⟨rfl, hb2⟩; have HB2 := Lib.hid (below_up HB1.out hb2); clear hb2)
              | (go_at_call 36; (with_reducible refine (HPM.out _ HB2.out).mono ?_); rintro e w4 ⟨rfl, hb4⟩; have HB4 := Lib.hid (below_up HB2.out hb4); (obtain ⟨u0, u1, u2, u3, u4, u5, u6, u7⟩ := CC.out.next HB4.out KB.out); have v0 := bcell HB4.out K0.out KG.out; clear hb4)
              | (go_at_call 52; (with_reducible refine (HOW.out _ HB4.out).mono ?_); rintro e w3 ⟨a3, n3, c3, rfl, hz3, -, hh3, hb3⟩; have HZ3 := Lib.hid hz3; have HH3 := Lib.hid hh3; have HB3 := Lib.hid hb3; clear hz3 hh3 hb3; simp only [ptV])
              | (at_builtin; refine wpList_append_sl rfl (.tmp 14) (.tmp 24) 80 rfl _ (PR.more (q := q) (HP.out.over HB4.out) HZ3.out HH3.out HB3.out hnl6) ?_; intro b9 n9 c9 w9 h9; (obtain ⟨rfl, h9⟩ := h9); have HP9 := Lib.hid h9; clear h9))
            go_roundw
            case rel => exact ⟨i + 1, _, _, _, _, by go_num, rfl, hlt, by omega, HP9.out, HE.out⟩
            case measure => simp [intOf]; omega
    · have hI : ¬ (i : Int) < (n : Int) := by omega
      have HQ : Hid (qs = partL m A B S) := Lib.hid (by
        rw [← hq, partA_end m A B S (by rw [← HN.out]; omega), List.append_nil])
      clear HX hP hq hbel
      go_wp2
      go_ret
      exact ⟨al, nl, cl, rfl, HQ.out ▸ HP.out⟩

end Go.Proofs.Ytobplffailbkbaa

/-
  A row of bytes that came of a text, and goes on.
-/
namespace Go.Proofs.Ytobplffailbkbaa
open Go.RowKit Go.Maps

/-- What a block holds. -/
def KindAt (w : World) (g : Nat) (e : TypeId) : Prop := ∃ cur fz, w.heap[g]? = some (.cells cur e fz)
theorem KindAt.lt {w : World} {g : Nat} {e : TypeId} (h : KindAt w g e) : g < w.heap.size := by
  obtain ⟨cur, fz, h⟩ := h
  exact row_lt h
theorem KindAt.ne {w : World} {g g' : Nat} {e e' : TypeId} (h : KindAt w g e) (h' : KindAt w g' e') (he : e ≠ e') : g ≠ g' := by
  rintro rfl
  obtain ⟨cur, fz, h⟩ := h
  obtain ⟨cur', fz', h'⟩ := h'
  rw [h] at h'
  simp only [Option.some.injEq, Obj.cells.injEq] at h'
  exact he h'.2.1
theorem frozen_of_block {w w' : World} {g j : Nat} (h : w'.heap[g]? = w.heap[g]?) : w'.frozen? ⟨g, j, none⟩ = w.frozen? ⟨g, j, none⟩ := by
  unfold World.frozen?
  simp only [h]

theorem setCells_other (b : Nat) : ∀ (vs : List Value) (o : Nat) (w : World) (k : Nat), k ≠ b → (w.setCells b o vs).heap[k]? = w.heap[k]?
  | [], _, _, _, _ => rfl
  | v :: r, o, w, k, h => by
    rw [World.setCells, setCells_other b r (o + 1) _ k h]
    exact heap_setCell_other w _ k v h
theorem setCells_size (b : Nat) : ∀ (vs : List Value) (o : Nat) (w : World), (w.setCells b o vs).heap.size = w.heap.size
  | [], _, _ => rfl
  | v :: r, o, w => by
    rw [World.setCells, setCells_size b r (o + 1) _]
    simp [World.setCell]
theorem setCells_rest (b : Nat) : ∀ (vs : List Value) (o : Nat) (w : World), (w.setCells b o vs).os = w.os ∧ (w.setCells b o vs).tape = w.tape ∧ (w.setCells b o vs).output = w.output
  | [], _, _ => ⟨rfl, rfl, rfl⟩
  | v :: r, o, w => by
    rw [World.setCells]
    exact setCells_rest b r (o + 1) _
theorem setCells_kind (b : Nat) {e : TypeId} : ∀ (vs : List Value) (o : Nat) (w : World), KindAt w b e → KindAt (w.setCells b o vs) b e
  | [], _, _, h => h
  | v :: r, o, w, h => by
    rw [World.setCells]
    refine setCells_kind b r (o + 1) _ ?_
    obtain ⟨cur, fz, h⟩ := h
    refine ⟨cur.setIfInBounds o v, fz, ?_⟩
    simp [World.setCell, Array.getElem?_modify, h]

/-- Bytes in a row of the call's own. -/
def BZ (V : World) (x : List UInt8) (v : Value) (w : World) : Prop :=
  (v = .slice none 0 0 ∧ x = []) ∨ ∃ g cap, v = .slice (some ⟨g, 0, none⟩) x.length cap ∧ V.heap.size ≤ g ∧ KindAt w g 5 ∧ x.length ≤ cap ∧ cap ≤ maxLen ∧
    (∀ j, j < cap → (w.cell? ⟨g, j, none⟩).isSome = true ∧ w.frozen? ⟨g, j, none⟩ = false) ∧ ∀ j b, x[j]? = some b → w.cell? ⟨g, j, none⟩ = some (.int .u8 (b.toNat : Int))
theorem BZ.nil (V w : World) : BZ V [] (.slice none 0 0) w := .inl ⟨rfl, rfl⟩
theorem BZ.form {V : World} {x : List UInt8} {v : Value} {w : World} (h : BZ V x v w) : ∃ a c, v = .slice a x.length c ∧ x.length ≤ c ∧ c ≤ maxLen := by
  rcases h with ⟨rfl, rfl⟩ | ⟨g, cap, rfl, -, -, h1, h2, -⟩
  · exact ⟨none, 0, rfl, Nat.le_refl _, Nat.zero_le _⟩
  · exact ⟨_, cap, rfl, h1, h2⟩
theorem BZ.keep {V : World} {x : List UInt8} {a : Option Addr} {n c : Nat} {w w' : World} (h : BZ V x (.slice a n c) w) (hb : ∀ g, a = some ⟨g, 0, none⟩ → w'.heap[g]? = w.heap[g]?) : BZ V x (.slice a n c) w' := by
  rcases h with ⟨h1, h2⟩ | ⟨g, cap, hv, h0, hk, h1, h2, h3, h4⟩
  · exact .inl ⟨h1, h2⟩
  · have hv0 := hv
    simp only [Value.slice.injEq] at hv
    have e := hb g hv.1
    refine .inr ⟨g, cap, hv0, h0, ?_, h1, h2, fun j hj => ⟨?_, ?_⟩, fun j b hj => ?_⟩
    · obtain ⟨cur, fz, hk⟩ := hk
      exact ⟨cur, fz, e.trans hk⟩
    · rw [World.cell?_of_block e]
      exact (h3 j hj).1
    · rw [frozen_of_block e]
      exact (h3 j hj).2
    · rw [World.cell?_of_block e]
      exact h4 j b hj
theorem BZ.home {V : World} {x : List UInt8} {a : Option Addr} {n c : Nat} {w : World} (h : BZ V x (.slice a n c) w) : ∀ g, a = some ⟨g, 0, none⟩ → V.heap.size ≤ g ∧ KindAt w g 5 := by
  intro g ha
  rcases h with ⟨h1, h2⟩ | ⟨g', cap, hv, h0, hk, -⟩
  · simp only [Value.slice.injEq] at h1
    rw [h1.1] at ha
    cases ha
  · simp only [Value.slice.injEq] at hv
    rw [hv.1] at ha
    simp only [Option.some.injEq, Addr.mk.injEq, and_true] at ha
    subst ha
    exact ⟨h0, hk⟩

set_option maxRecDepth 100000 in
theorem BZ.text {V : World} {x : List UInt8} {a : Option Addr} {n c : Nat} {w : World} (h : BZ V x (.slice a n c) w) (hx : x ≠ []) : ∀ X : World, X.heap = w.heap → (convert 35 9 (.slice a n c)).run Try.prog X = .ok (.string ⟨x.toArray⟩) X := by
  intro X hX
  rcases h with ⟨h1, h2⟩ | ⟨g, cap, hv, h0, hk, h1, h2, h3, h4⟩
  · exact absurd h2 hx
  · simp only [Value.slice.injEq] at hv
    obtain ⟨rfl, rfl, rfl⟩ := hv
    have hc : ∀ j, X.cell? ⟨g, j, none⟩ = w.cell? ⟨g, j, none⟩ := fun j => World.cell?_of_block (by rw [hX])
    have e := run_convert_bytes_arg (P := Try.prog) X 35 5 Try.underlying35 Try.underlying5 g 0 x.length c (x.map fun c => (c.toNat : Int)) (by simp) (fun i hi => by
      rw [Nat.zero_add, hc, h4 i x[i] (List.getElem?_eq_getElem hi)]
      simp [List.getD, hi]) 9 Try.underlying9
    rw [e]
    have : strOfNums (x.map fun c => (c.toNat : Int)) = ⟨x.toArray⟩ := by
      unfold strOfNums
      rw [List.map_map]
      congr 2
      have : ((fun n : Int => UInt8.ofNat n.toNat) ∘ fun c : UInt8 => (c.toNat : Int)) = id := by
        funext c
        simp
      rw [this, List.map_id]
    rw [this]

theorem bz_cells_len (bs : List UInt8) : (bcells bs).length = bs.length := by simp [bcells]
theorem str_bcells (s : ByteArray) : Lib.strCells s = bcells s.data.toList := rfl
/-- The bytes of a text. -/
theorem BZ.new (V w : World) (s : ByteArray) (hV : V.heap.size ≤ w.heap.size) (hs : s.size ≤ 100000000) : (convert 9 35 (.string s)).run Try.prog w = .ok (.slice (some ⟨w.heap.size, 0, none⟩) s.size (grownCap w s.size 0 5)) (Lib.bytesWorld w 5 s) ∧ BZ V s.data.toList (.slice (some ⟨w.heap.size, 0, none⟩) s.size (grownCap w s.size 0 5)) (Lib.bytesWorld w 5 s) ∧ Below w.heap.size w (Lib.bytesWorld w 5 s) := by
  have hl : s.data.toList.length = s.size := Array.length_toList
  have hge := grownCap_ge w s.size 0 5
  have hcm : grownCap w s.size 0 5 ≤ maxLen := grownCap_le_maxLen w s.size 0 5 (by unfold maxLen; omega)
  have hn := Lib.bytesWorld_at_new w 5 s
  have hcs : (Lib.bytesCells w 5 s).size = grownCap w s.size 0 5 := by
    unfold Lib.bytesCells
    rw [Array.size_append, Array.size_map, Array.size_replicate]
    have : s.data.size = s.size := rfl
    omega
  refine ⟨Lib.run_convert_string_bytes w 9 35 5 s Try.underlying9 Try.underlying35 Try.underlying5, .inr ⟨w.heap.size, _, by rw [hl], hV, ⟨_, _, hn⟩, by rw [hl]; exact hge, hcm, fun j hj => ⟨?_, ?_⟩, fun j b hj => ?_⟩, ⟨rfl, rfl, rfl, by rw [Lib.bytesWorld_size]; omega, fun k hk => Lib.bytesWorld_at_old w _ s k hk⟩⟩
  · simp only [World.cell?, hn]
    rw [Array.getElem?_eq_getElem (by omega)]
    rfl
  · unfold World.frozen?
    simp only [hn]
    rw [Bool.and_eq_false_iff]
    left
    simp only [decide_eq_false_iff_not]
    omega
  · have hj' := (List.getElem?_eq_some_iff.1 hj).1
    rw [Lib.bytesWorld_cell w _ s j (by omega)]
    rw [List.getD_eq_getElem?_getD, hj]
    rfl

/-- .. and more bytes behind them. -/
theorem BZ.app {V : World} {x : List UInt8} {a : Option Addr} {n c : Nat} {w : World} {ty : TypeId} (h : BZ V x (.slice a n c) w) (hx : x ≠ []) (s : ByteArray) (hV : V.heap.size ≤ w.heap.size) (hs : x.length + s.size ≤ 100000000) :
    ∃ g n' c' w', (Builtin.append_ #[35, 9] ty #[.slice a n c, .string s]).run Try.prog w = .ok (.slice (some ⟨g, 0, none⟩) n' c') w' ∧ n' = (x ++ s.data.toList).length ∧ BZ V (x ++ s.data.toList) (.slice (some ⟨g, 0, none⟩) n' c') w' ∧ w.grownBy w' (Value.slice a n c).ownBlock := by
  have hl : s.data.toList.length = s.size := Array.length_toList
  obtain ⟨i0, hi, hz0, hz1, hz2⟩ := info_parts Try.infoByte
  rcases h with ⟨h1, h2⟩ | ⟨g, cap, hv, h0, hk, h1, h2, h3, h4⟩
  · exact absurd h2 hx
  · simp only [Value.slice.injEq] at hv
    obtain ⟨rfl, rfl, rfl⟩ := hv
    by_cases hroom : x.length + s.size ≤ c
    · have hf := Lib.run_firstCells_string (P := Try.prog) w 1 s
      have hcl : (Lib.strCells s).length = s.size := Lib.strCells_length s
      have hst := run_storeCells_cells (P := Try.prog) g x.length (Lib.strCells s) 0 w (fun j hj => (h3 _ (by omega)).1) (fun j hj => (h3 _ (by omega)).2) (Lib.strCells_oneCell s)
      rw [Nat.add_zero] at hst
      have hr : (Builtin.append_ #[35, 9] ty #[.slice (some ⟨g, 0, none⟩) x.length c, .string s]).run Try.prog w = .ok (.slice (some ⟨g, 0, none⟩) (x.length + s.size) c) (w.setCells g x.length (Lib.strCells s)) := by
        simp [Builtin.append_, run_underlying Try.underlying35, run_underlying Try.underlying9, sizeOf, typeInfo, hi, hz1, Builtin.lenOf, hroom, hf, Addr.add_lit, hst]
      refine ⟨g, _, c, _, hr, by rw [List.length_append, hl], .inr ⟨g, c, by rw [List.length_append, hl], h0, setCells_kind g _ _ _ hk, by rw [List.length_append, hl]; exact hroom, h2, fun j hj => ⟨?_, ?_⟩, fun j b hj => ?_⟩, ?_⟩
      · by_cases hjr : j < x.length ∨ x.length + (Lib.strCells s).length ≤ j
        · rw [World.cell?_setCells_out g _ _ _ _ (fun _ _ => hjr)]
          exact (h3 j hj).1
        · obtain ⟨d, rfl⟩ : ∃ d, j = x.length + d := ⟨j - x.length, by omega⟩
          have hd : d < (Lib.strCells s).length := by omega
          rw [World.cell?_setCells_in g (Lib.strCells s) x.length w (fun i hi => (h3 _ (by omega)).1) d hd]
          rfl
      · rw [World.frozen?_setCells]
        exact (h3 j hj).2
      · rcases Nat.lt_or_ge j x.length with hjx | hjx
        · rw [World.cell?_setCells_out g _ _ _ _ (fun _ _ => .inl hjx)]
          rw [List.getElem?_append_left hjx] at hj
          exact h4 j b hj
        · rw [List.getElem?_append_right hjx] at hj
          obtain ⟨d, rfl⟩ : ∃ d, j = x.length + d := ⟨j - x.length, by omega⟩
          rw [Nat.add_sub_cancel_left] at hj
          have hd : d < (Lib.strCells s).length := by
            have := (List.getElem?_eq_some_iff.1 hj).1
            omega
          rw [World.cell?_setCells_in g (Lib.strCells s) x.length w (fun i hi => (h3 _ (by omega)).1) d hd, ← List.getElem?_eq_getElem hd, str_bcells]
          unfold bcells
          rw [List.getElem?_map, hj]
          rfl
      · obtain ⟨r1, r2, r3⟩ := setCells_rest g (Lib.strCells s) x.length w
        exact ⟨r1, r2, r3, by rw [setCells_size]; exact Nat.le_refl _, fun k _ hk2 => setCells_other g _ _ _ k (fun e => hk2 (by rw [e]; rfl))⟩
    · have hold : ∀ j v, (bcells x)[j]? = some v → w.cell? ((⟨g, 0, none⟩ : Addr).add j) = some v := fun j v hj => by
        rw [addr_add]
        unfold bcells at hj
        rw [List.getElem?_map, Option.map_eq_some_iff] at hj
        obtain ⟨b, hb, rfl⟩ := hj
        exact h4 j b hb
      have hr := Lib.run_append_grow_string (P := Try.prog) w 35 9 ty 5 i0 (.int .u8 0) Try.underlying35 Try.underlying9 hi hz0 ⟨g, 0, none⟩ x.length c (bcells x) (by rw [hz1, bcells_len, Nat.mul_one]) hold s (by omega) (by omega) (by rw [hz2]; exact growslice_fits (by omega) (by omega))
      have hge := grownCap_ge w (x.length + s.size) c 5
      have hcm2 : grownCap w (x.length + s.size) c 5 ≤ maxLen := grownCap_le_maxLen w (x.length + s.size) c 5 (by unfold maxLen; omega)
      have hnew : (w.drew.alloc (.cells ((bcells x).toArray ++ (Lib.strCells s).toArray ++ Builtin.zeroCells (Value.int .u8 0).cells (grownCap w (x.length + s.size) c 5 - (x.length + s.size))) 5)).heap[w.heap.size]? = some (.cells ((bcells x).toArray ++ (Lib.strCells s).toArray ++ Builtin.zeroCells (Value.int .u8 0).cells (grownCap w (x.length + s.size) c 5 - (x.length + s.size))) 5 (0, 0)) := heap_alloc_new w.drew _
      have hsz : ((bcells x).toArray ++ (Lib.strCells s).toArray ++ Builtin.zeroCells (Value.int .u8 0).cells (grownCap w (x.length + s.size) c 5 - (x.length + s.size))).size = grownCap w (x.length + s.size) c 5 := by
        have hz1 : (Value.int IntKind.u8 0).cells.size = 1 := rfl
        simp only [Array.size_append, List.size_toArray, size_zeroCells, hz1, bcells_len, Lib.strCells_length]
        omega
      refine ⟨w.heap.size, _, _, _, hr, by rw [List.length_append, hl], .inr ⟨w.heap.size, _, by rw [List.length_append, hl], hV, ⟨_, _, hnew⟩, by rw [List.length_append, hl]; exact hge, hcm2, fun j hj => ⟨?_, Lib.frozen_of_heap hnew _⟩, fun j b hj => ?_⟩, ⟨rfl, rfl, rfl, by simp, fun k hk _ => Below.heap_alloc w.drew _ k hk⟩⟩
      · rw [Lib.cell_of_heap hnew, Array.getElem?_eq_getElem (by omega)]
        rfl
      · have hj' := (List.getElem?_eq_some_iff.1 hj).1
        rw [List.length_append, hl] at hj'
        rw [Lib.cell_of_heap hnew, Array.getElem?_append_left (by simp only [Array.size_append, List.size_toArray, bcells_len, Lib.strCells_length]; omega)]
        have e : (bcells x).toArray ++ (Lib.strCells s).toArray = (bcells (x ++ s.data.toList)).toArray := by rw [str_bcells]; simp [bcells]
        rw [e, List.getElem?_toArray]
        unfold bcells
        rw [List.getElem?_map, hj]
        rfl

end Go.Proofs.Ytobplffailbkbaa
