/-
  Create.
-/
import Derived.Test.YtfjdfdpelilelaaDoorFEdit
import Derived.Test.YtfjdfdpelilelaaDoorPaths
namespace Go.Proofs.YtfjdfdpelilelaaDoor
open Go.RowKit

theorem not_run : ∀ (x : Bool) (w : World), (Op.unary .not (.bool x)).run Tryd.prog w = .ok (.bool (!x)) w := fun _ _ => rfl

theorem create_arg (p : Nat) (w : World) (s m : ByteArray) (hs : s.size ≤ 1000) (hv : validB s.data.toList = false) :
    Calls Tryd.prog 11 #[.pointer (some ⟨p, 0, none⟩), .string s, .string m] w fun e w' => e = .returned (.int .i64 1) ∧ Below w.heap.size w w' := by
  have hV := pValid_any s w hs
  rw [hv] at hV
  have HV := Lib.hid hV
  have hnot := not_run
  clear hV hv
  go_enter Tryd.func11, Tryd.ntmps11
  go_wp2_with (go_at_call 25; refine HV.out.mono ?_; rintro e w1 ⟨rfl, b1⟩; have B1 := Lib.hid b1; clear b1)
  go_ret
  exact ⟨rfl, B1.out⟩

theorem create_there {B : Nat} {M : Mp} {w : World} {p : Nat} {t : Tab} {c : Nat} (h : FT B M w p t c) (s m : ByteArray) (hs : s.size ≤ 1000) (hv : validB s.data.toList = true) {x : Nat × Option T} (hf : t.file s.data.toList = some x) :
    Calls Tryd.prog 11 #[.pointer (some ⟨p, 0, none⟩), .string s, .string m] w fun e w' => e = .returned (.int .i64 3) ∧ Below w.heap.size w w' := by
  have hV := pValid_any s w hs
  rw [hv] at hV
  have HV := Lib.hid hV
  obtain ⟨e, he, hx, -⟩ := Tab.file_some hf
  have HA := Lib.hid (fun w1 (b : Below w.heap.size w w1) => (show Calls Tryd.prog 27 #[.pointer (some ⟨p, 0, none⟩), .string s] w1 fun y w' => y = .returned (.pointer (some ⟨e.blk, 0, none⟩)) ∧ w1 = w' from by
    have := at_any (h.below b) s (by omega)
    rw [atPtr_some he hx] at this
    exact this))
  have hnot := not_run
  clear h hV hv hf he hx
  go_enter Tryd.func11, Tryd.ntmps11
  go_wp2_with (first
    | (go_at_call 25; refine HV.out.mono ?_; rintro e w1 ⟨rfl, b1⟩; have B1 := Lib.hid b1; clear b1)
    | (go_at_call 27; refine (HA.out w1 B1.out).mono ?_; rintro e w' ⟨rfl, rfl⟩))
  go_ret
  exact ⟨rfl, B1.out⟩

/-- What is asked of a look at a path that is not there. -/
theorem at_gone {B : Nat} {M : Mp} {w : World} {p : Nat} {t : Tab} {c : Nat} (h : FT B M w p t c) (s : ByteArray) (hs : s.size ≤ 1000000) (hf : t.file s.data.toList = none) :
    Calls Tryd.prog 27 #[.pointer (some ⟨p, 0, none⟩), .string s] w fun y w' => y = .returned (.pointer none) ∧ w = w' := by
  have := at_any h s hs
  rw [atPtr_file t _ hf] at this
  exact this

theorem create_full {B : Nat} {M : Mp} {w : World} {p : Nat} {t : Tab} {c : Nat} (h : FT B M w p t c) (s m : ByteArray) (hs : s.size ≤ 1000) (hv : validB s.data.toList = true) (hf : t.file s.data.toList = none) (hc : 50 ≤ c) :
    Calls Tryd.prog 11 #[.pointer (some ⟨p, 0, none⟩), .string s, .string m] w fun e w' => e = .returned (.int .i64 4) ∧ Below w.heap.size w w' := by
  have hV := pValid_any s w hs
  rw [hv] at hV
  have HV := Lib.hid hV
  have HA := Lib.hid (fun w1 (b : Below w.heap.size w w1) => at_gone (h.below b) s (by omega) hf)
  have HT := Lib.hid (fun w1 (b : Below w.heap.size w w1) => (h.below b).tblCells.2.1)
  have hc1 : (50 : Int) ≤ (c : Int) := by omega
  have hnot := not_run
  clear h hV hv hf hc
  go_enter Tryd.func11, Tryd.ntmps11
  go_wp2_with (first
    | (go_at_call 25; refine HV.out.mono ?_; rintro e w1 ⟨rfl, b1⟩; have t1 := HT.out w1 b1; have B1 := Lib.hid b1; clear b1)
    | (go_at_call 27; refine (HA.out w1 B1.out).mono ?_; rintro e w' ⟨rfl, rfl⟩))
  go_ret
  exact ⟨rfl, B1.out⟩

theorem create_big {B : Nat} {M : Mp} {w : World} {p : Nat} {t : Tab} {c : Nat} (h : FT B M w p t c) (s m : ByteArray) (hs : s.size ≤ 1000) (hv : validB s.data.toList = true) (hf : t.file s.data.toList = none) (hc : c < 50) (hm : 65536 < m.size) (hm2 : m.size ≤ 1000000) :
    Calls Tryd.prog 11 #[.pointer (some ⟨p, 0, none⟩), .string s, .string m] w fun e w' => e = .returned (.int .i64 4) ∧ Below w.heap.size w w' := by
  have hV := pValid_any s w hs
  rw [hv] at hV
  have HV := Lib.hid hV
  have HA := Lib.hid (fun w1 (b : Below w.heap.size w w1) => at_gone (h.below b) s (by omega) hf)
  have HT := Lib.hid (fun w1 (b : Below w.heap.size w w1) => (h.below b).tblCells.2.1)
  have HN := Lib.hid (fun w1 => new_no m w1 hm hm2)
  have hc1 : ¬ (50 : Int) ≤ (c : Int) := by omega
  have hnot := not_run
  clear h hV hv hf hc hm hm2
  go_enter Tryd.func11, Tryd.ntmps11
  go_wp2_with (first
    | (go_at_call 25; refine HV.out.mono ?_; rintro e w1 ⟨rfl, b1⟩; have t1 := HT.out w1 b1; have B1 := Lib.hid b1; clear b1)
    | (go_at_call 27; refine (HA.out w1 B1.out).mono ?_; rintro e w' ⟨rfl, rfl⟩)
    | (go_at_call 28; refine (HN.out w1).mono ?_; rintro e w' ⟨rfl, rfl⟩))
  go_ret
  exact ⟨rfl, B1.out⟩

/-- A path's text has been made. -/
def CreatePost (B : Nat) (M : Mp) (w : World) (p : Nat) (t : Tab) (c : Nat) (l : List UInt8) (m : ByteArray) (e : Ending) (w' : World) : Prop :=
  EditPost B M w p t c l (fun o => otext o = m.data.toList) e w'

theorem create_end {B : Nat} {M M1 : Mp} {w w1 : World} {p : Nat} {t : Tab} {c : Nat} (h : FT B M w p t c) (s1 : St B M w M1 w1) {l : List UInt8} (hl : t.ent l = none) {b : Nat} {o : Option T} (hr : RP M1 w1 (some ⟨b, 0, none⟩) o)
    {x : Ending} {w2 : World} (hk : KnownPost B M1 w1 p t c l x w2) : ∃ k n, x = .returned (.pointer (some ⟨k, 0, none⟩)) ∧ (∀ z w3, Changed ⟨l, k, none, 0⟩ (some ⟨b, 0, none⟩) w2 z w3 → ∃ t', Did t t' l (some (b, o)) ∧ FT B M1 w3 p t' c ∧ Ks (mine p t) M w M1 w3) ∧ w2.heap[k]? = some (fileObj ⟨l, k, none, 0⟩) ∧ n = 0 := by
  obtain ⟨k, mb, rfl, hkn, hmb, hf, hks⟩ := hk
  have he : (t.add l k mb).ent l = some ⟨l, k, none, 0⟩ := by rw [Tab.ent_add t l k mb hl, if_pos rfl]
  refine ⟨k, 0, rfl, fun z w3 hc => ?_, hf.file _ (Tab.ent_path he).2, rfl⟩
  have hext : ∀ j, j < w1.heap.size → M1 j = M1 j := fun _ _ => rfl
  have hr2 : RP M1 w2 (some ⟨b, 0, none⟩) o := by
    rcases hr with ⟨h, _⟩ | ⟨b', q, h1, h2, h3, h4⟩
    · cases h
    · simp only [Option.some.injEq, Addr.mk.injEq, and_true] at h1
      subst h1
      refine .inr ⟨b, q, rfl, h2, (hks.block b (lt_of_heap h3) h2 fun hb => ?_).trans h3, h4⟩
      have h' := h.step s1
      simp only [mine, List.mem_cons, List.mem_append, Option.mem_toList, List.mem_map] at hb
      rcases hb with hb | hb | ⟨e, he', hb⟩
      · subst hb
        obtain ⟨ds, ht, _⟩ := h'.tbl
        rw [h3] at ht
        simp [tblObj] at ht
      · have hm := h'.map
        unfold MapAt at hm
        rw [hb] at hm
        simp only at hm
        obtain ⟨D, ⟨es, clock, hh, _⟩, _⟩ := hm
        rw [h3] at hh
        cases hh
      · have := h'.file e he'
        rw [hb, h3] at this
        simp [fileObj] at this
  obtain ⟨f3, k3⟩ := turn_post hf (St.refl hf.inv) he (Nat.zero_lt_succ _) (some (b, o)) (fun y hy => by cases hy; exact hr2) hc
  refine ⟨_, did_add h.paths hl k mb _, f3, ((Ks.of_st (S := mine p t) s1).trans hks fun _ hj _ => hj).trans k3 fun j hj hlt => ?_⟩
  have hsz := s1.fr.size
  simp only [mine, Tab.add, List.map_append, List.map_cons, List.map_nil, Option.toList_some, List.mem_cons, List.mem_append, List.not_mem_nil, or_false] at hj
  simp only [mine, List.mem_cons, List.mem_append, Option.mem_toList]
  rcases hj with hj | hj | hj | hj
  · exact .inl hj
  · rcases hmb with hm | hm
    · exact .inr (.inl (by rw [hm, hj]))
    · omega
  · exact .inr (.inr hj)
  · omega

set_option maxHeartbeats 1000000 in
theorem create_new {B : Nat} {M : Mp} {w : World} {p : Nat} {t : Tab} {c : Nat} (h : FT B M w p t c) (s m : ByteArray) (hs : s.size ≤ 1000) (hv : validB s.data.toList = true) (hl : t.ent s.data.toList = none) (hc : c < 50) (hm : m.size ≤ 65536) (hfew : t.ents.length < 1000000) :
    Calls Tryd.prog 11 #[.pointer (some ⟨p, 0, none⟩), .string s, .string m] w (CreatePost B M w p t (c + 1) s.data.toList m) := by
  have hV := pValid_any s w hs
  rw [hv] at hV
  have HV := Lib.hid hV
  have hf : t.file s.data.toList = none := by unfold Tab.file; rw [hl]; rfl
  have HA := Lib.hid (fun w1 (b : Below w.heap.size w w1) => at_gone (h.below b) s (by omega) hf)
  have HT := Lib.hid (fun w1 (b : Below w.heap.size w w1) => (h.below b).tblCells.2.1)
  have HN := Lib.hid (fun w1 (b : Below w.heap.size w w1) => new_any (h.below b).inv m hm)
  have HK := Lib.hid (fun M1 w1 (k : St B M w M1 w1) => known_any (h.step k) s (by omega) hl hfew)
  have HE := Lib.hid (fun M1 w1 (s1 : St B M w M1 w1) b o hr x w2 (hk : KnownPost B M1 w1 p t c s.data.toList x w2) => create_end (b := b) (o := o) h s1 hl hr hk)
  have HS := Lib.hid (fun w1 (b : Below w.heap.size w w1) => St.below h.inv b)
  have hc1 : ¬ (50 : Int) ≤ (c : Int) := by omega
  have hc2 : (0 : Int) ≤ (c : Int) := by omega
  have hc3 : (c : Int) ≤ 50 := by omega
  have hnot := not_run
  clear h hV hv hf hc hm hfew hl
  go_enter Tryd.func11, Tryd.ntmps11
  go_wp2_with (first
    | (go_at_call 25; refine HV.out.mono ?_; rintro e w1 ⟨rfl, b1⟩; have t1 := HT.out w1 b1; have B1 := Lib.hid b1; clear b1)
    | (go_at_call 27; refine (HA.out w1 B1.out).mono ?_; rintro e w' ⟨rfl, rfl⟩)
    | (go_at_call 28; refine (HN.out w1 B1.out).mono ?_; rintro e w2 ⟨M2, b2, o2, rfl, r2, ⟨g2, -, -⟩, s2⟩; have S2 := Lib.hid ((HS.out w1 B1.out).trans s2); have R2 := Lib.hid r2; have G2 := Lib.hid g2; clear s2 r2 g2)
    | (go_at_call 29; refine (HK.out M2 w2 S2.out).mono ?_; rintro e w3 hk; obtain ⟨k3, n3, rfl, hk3, hh3, -⟩ := HE.out M2 w2 S2.out b2 o2 R2.out _ _ hk; have K3 := Lib.hid hk3; have H3 := Lib.hid hh3; clear hk hk3 hh3)
    | (go_at_call 30; refine (change_any ⟨s.data.toList, k3, none, 0⟩ (some ⟨b2, 0, none⟩) w3 H3.out (Nat.zero_le _)).mono ?_; rintro z w4 hch; have hz := hch.1; subst hz; obtain ⟨t4, d4, f4, ks4⟩ := K3.out _ _ hch; have D4 := Lib.hid d4; have F4 := Lib.hid f4; have KS4 := Lib.hid ks4; obtain ⟨-, u4, -, z4⟩ := f4.tblCells; clear hch d4 f4 ks4))
  have e1 : (c : Int) + 1 = ((c + 1 : Nat) : Int) := by omega
  have hfin : CreatePost B M w p t (c + 1) s.data.toList m (.returned (.int .i64 0)) (w4.setCell ⟨p, 2, none⟩ (.int .i64 ((c + 1 : Nat) : Int))) :=
    ⟨rfl, M2, t4, some (b2, o2), ⟨b2, o2, rfl, G2.out⟩, D4.out, F4.out.counted (c + 1), KS4.out.trans ((One.setCell w4 p 2 _).ks (S := mine p t) (by simp [mine])) fun _ hj _ => hj⟩
  rw [← e1] at hfin
  have HF := Lib.hid hfin
  clear hfin e1
  go_ret
  exact HF.out


set_option maxHeartbeats 1000000 in
theorem create_again {B : Nat} {M : Mp} {w : World} {p : Nat} {t : Tab} {c : Nat} (h : FT B M w p t c) (s m : ByteArray) (hs : s.size ≤ 1000) (hv : validB s.data.toList = true) {u : Ent} (he : t.ent s.data.toList = some u) (hx : u.txt = none) (hn : u.n < 1000000) (hc : c < 50) (hm : m.size ≤ 65536) :
    Calls Tryd.prog 11 #[.pointer (some ⟨p, 0, none⟩), .string s, .string m] w (CreatePost B M w p t (c + 1) s.data.toList m) := by
  have hV := pValid_any s w hs
  rw [hv] at hV
  have HV := Lib.hid hV
  have hf : t.file s.data.toList = none := by unfold Tab.file; rw [he]; exact hx
  have HA := Lib.hid (fun w1 (b : Below w.heap.size w w1) => at_gone (h.below b) s (by omega) hf)
  have HT := Lib.hid (fun w1 (b : Below w.heap.size w w1) => (h.below b).tblCells.2.1)
  have HN := Lib.hid (fun w1 (b : Below w.heap.size w w1) => new_any (h.below b).inv m hm)
  have HK := Lib.hid (fun M1 w1 (k : St B M w M1 w1) => known_old (h.step k) s (by omega) he)
  have HH := Lib.hid (fun M1 w1 (k : St B M w M1 w1) r => change_any u r w1 ((h.step k).file u (h.ent_mem he)) (by omega))
  have HE := Lib.hid (fun M1 w1 (k : St B M w M1 w1) b o (hr : RP M1 w1 (some ⟨b, 0, none⟩) o) z w2 (hc : Changed u (some ⟨b, 0, none⟩) w1 z w2) => turn_post h k he hn (some (b, o)) (fun y hy => by cases hy; exact hr) hc)
  have HD := Lib.hid (fun x => did_turn h.paths he x)
  have HS := Lib.hid (fun w1 (b : Below w.heap.size w w1) => St.below h.inv b)
  have hc1 : ¬ (50 : Int) ≤ (c : Int) := by omega
  have hc2 : (0 : Int) ≤ (c : Int) := by omega
  have hc3 : (c : Int) ≤ 50 := by omega
  have hnot := not_run
  clear h hV hv hf hc hm he hx hn
  go_enter Tryd.func11, Tryd.ntmps11
  go_wp2_with (first
    | (go_at_call 25; refine HV.out.mono ?_; rintro e w1 ⟨rfl, b1⟩; have t1 := HT.out w1 b1; have B1 := Lib.hid b1; clear b1)
    | (go_at_call 27; refine (HA.out w1 B1.out).mono ?_; rintro e w' ⟨rfl, rfl⟩)
    | (go_at_call 28; refine (HN.out w1 B1.out).mono ?_; rintro e w2 ⟨M2, b2, o2, rfl, r2, ⟨g2, -, -⟩, s2⟩; have S2 := Lib.hid ((HS.out w1 B1.out).trans s2); have R2 := Lib.hid r2; have G2 := Lib.hid g2; clear s2 r2 g2)
    | (go_at_call 29; refine (HK.out M2 w2 S2.out).mono ?_; rintro e w3 ⟨rfl, rfl⟩)
    | (go_at_call 30; refine (HH.out M2 w2 S2.out (some ⟨b2, 0, none⟩)).mono ?_; rintro z w4 hch; have hz := hch.1; subst hz; obtain ⟨f4, ks4⟩ := HE.out M2 w2 S2.out b2 o2 R2.out _ _ hch; have F4 := Lib.hid f4; have KS4 := Lib.hid ks4; obtain ⟨-, u4, -, z4⟩ := f4.tblCells; clear hch f4 ks4))
  have e1 : (c : Int) + 1 = ((c + 1 : Nat) : Int) := by omega
  have hfin : CreatePost B M w p t (c + 1) s.data.toList m (.returned (.int .i64 0)) (w4.setCell ⟨p, 2, none⟩ (.int .i64 ((c + 1 : Nat) : Int))) :=
    ⟨rfl, M2, _, some (b2, o2), ⟨b2, o2, rfl, G2.out⟩, HD.out _, F4.out.counted (c + 1), KS4.out.trans ((One.setCell w4 p 2 _).ks (S := mine p t) (by simp [mine])) fun _ hj _ => hj⟩
  rw [← e1] at hfin
  have HF := Lib.hid hfin
  clear hfin e1
  go_ret
  exact HF.out

theorem create_ok {B : Nat} {M : Mp} {w : World} {p : Nat} {t : Tab} {c : Nat} (h : FT B M w p t c) (s m : ByteArray) (hs : s.size ≤ 1000) (hv : validB s.data.toList = true) (hf : t.file s.data.toList = none) (hn : t.ver s.data.toList < 1000000) (hc : c < 50) (hm : m.size ≤ 65536) (hfew : t.ents.length < 1000000) :
    Calls Tryd.prog 11 #[.pointer (some ⟨p, 0, none⟩), .string s, .string m] w (CreatePost B M w p t (c + 1) s.data.toList m) := by
  cases he : t.ent s.data.toList with
  | none => exact create_new h s m hs hv he hc hm hfew
  | some u =>
    refine create_again h s m hs hv he ?_ ?_ hc hm
    · unfold Tab.file at hf
      rw [he] at hf
      exact hf
    · unfold Tab.ver at hn
      rw [he] at hn
      exact hn

theorem create_nil (s m : ByteArray) (w : World) :
    Calls Tryd.prog 11 #[.pointer none, .string s, .string m] w fun e w' => e = .returned (.int .i64 2) ∧ w = w' := by
  go_enter Tryd.func11, Tryd.ntmps11
  go_wp2
  go_ret
  exact ⟨rfl, rfl⟩

/-- A law's table: its base is the heap's size when the law began. -/
structure LS (W : World) (p : Nat) (t : Tab) (c : Nat) (M : Mp) (w : World) : Prop where
  ft : FT W.heap.size M w p t c
  ks : Ks [] (fun _ => none) W M w

theorem LS.ended {W : World} {p : Nat} {t : Tab} {c : Nat} {M : Mp} {w : World} (h : LS W p t c M w) : Below W.heap.size W w := h.ks.ended (fun j hj => by cases hj) (Nat.le_refl _)
theorem LS.below {W : World} {p : Nat} {t : Tab} {c : Nat} {M : Mp} {w w' : World} (h : LS W p t c M w) (b : Below w.heap.size w w') : LS W p t c M w' := ⟨h.ft.below b, h.ks.below b⟩
theorem LS.step {W : World} {p : Nat} {t : Tab} {c : Nat} {M M' : Mp} {w w' : World} (h : LS W p t c M w) (s : St W.heap.size M w M' w') : LS W p t c M' w' := ⟨h.ft.step s, h.ks.st s⟩
theorem LS.drew {W : World} {p : Nat} {t : Tab} {c : Nat} {M : Mp} {w : World} (h : LS W p t c M w) : LS W p t c M w.drew := h.below (Below.refl _ _).drew
theorem LS.alloc {W : World} {p : Nat} {t : Tab} {c : Nat} {M : Mp} {w : World} (h : LS W p t c M w) (o : Obj) : LS W p t c M (w.alloc o) := h.below ((Below.refl _ _).alloc (Nat.le_refl _) _)
theorem LS.next {W : World} {p : Nat} {t t' : Tab} {c c' : Nat} {M M' : Mp} {w w' : World} (h : LS W p t c M w) (f : FT W.heap.size M' w' p t' c') (k : Ks (mine p t) M w M' w') : LS W p t' c' M' w' :=
  ⟨f, h.ks.trans k fun j hj hlt => by have := h.ft.low j hj; omega⟩

/-- What a law's step leaves. -/
def LPost (W : World) (p : Nat) (t : Tab) (c : Nat) (l : List UInt8) (P : Option (Nat × Option T) → Prop) (e : Ending) (w' : World) : Prop :=
  e = .returned (.int .i64 0) ∧ ∃ M' t' x, P x ∧ Did t t' l x ∧ LS W p t' c M' w'

theorem LS.post {W : World} {p : Nat} {t : Tab} {c c' : Nat} {M : Mp} {w : World} (h : LS W p t c M w) {l : List UInt8} {P : Option (Nat × Option T) → Prop} {e : Ending} {w' : World} (q : TabPost W.heap.size M w p t c' l P e w') : LPost W p t c' l P e w' := by
  obtain ⟨he, M', t', x, hp, hd, hf, hk⟩ := q
  exact ⟨he, M', t', x, hp, hd, h.next hf hk⟩

/-- New, at a law's beginning. -/
theorem LS.made {W X : World} {v : Value} {xs : List (List UInt8)} {w : World} (hb : Below W.heap.size W w) (hw : W.heap.size ≤ w.heap.size) (h : X.heap[w.heap.size]? = some (tblObj v none 0)) (ho : OwnStrs w.heap.size v xs X) (hX : Below w.heap.size w X) : LS W w.heap.size ⟨xs, none, []⟩ 0 (fun _ => none) X := by
  have h0 : Below W.heap.size W X := hb.trans (hX.mono hw)
  refine ⟨⟨⟨h0.size, fun _ _ h => (by cases h), fun _ _ h => (by cases h), fun _ _ h => (by cases h)⟩, ?_, ⟨v, h, OwnStrs.base ho hw⟩, rfl, fun e he => (by cases he), fun e he => (by cases he), List.nodup_nil, List.nodup_nil, fun e he => (by cases he), Nat.zero_le _, fun e he => (by cases he)⟩, ?_⟩
  · intro k hk
    simp only [mine, Option.toList_none, List.map_nil, List.append_nil, List.mem_cons, List.not_mem_nil, or_false] at hk
    rw [hk]
    exact hw
  · exact ⟨h0.os, h0.tape, h0.output, h0.size, fun _ _ => rfl, fun k hk _ _ => h0.block k hk⟩

end Go.Proofs.YtfjdfdpelilelaaDoor
