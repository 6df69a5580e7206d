/-
  edit, Insert, Delete.
-/
import Derived.Test.YtfjdfdpelilelaaDoorFOps
namespace Go.Proofs.YtfjdfdpelilelaaDoor
open Go.RowKit

/-- A rope's change that was refused. -/
def Refused (w : World) (code : Int) (e : Ending) (w' : World) : Prop := e = .returned (.tuple #[.pointer none, .int .i64 code]) ∧ w = w'

theorem insC_any (r : Option Addr) (ca cb : Nat) (at' : Int) (s : ByteArray) (w : World) (Q : Ending → World → Prop) (h0 : w.cell? ⟨ca, 0, none⟩ = some (.int .i64 at')) (h1 : w.cell? ⟨cb, 0, none⟩ = some (.string s))
    (hQ : ∀ e w', Q e w' → ∃ r code, e = .returned (.tuple #[.pointer r, .int .i64 code]))
    (hc : Calls Tryd.prog 40 #[.pointer r, .int .i64 at', .string s] w Q) :
    Calls Tryd.prog 39 #[.pointer r, .pointer (some ⟨ca, 0, none⟩), .pointer (some ⟨cb, 0, none⟩)] w Q := by
  have HC := Lib.hid (hc.mono fun e w' hq => (show (∃ r code, e = .returned (.tuple #[.pointer r, .int .i64 code])) ∧ Hid (Q e w') from ⟨hQ e w' hq, hq⟩))
  clear hc hQ
  go_enter Tryd.func39, Tryd.ntmps39
  go_wp2_with (go_at_call 40; refine HC.out.mono ?_; rintro e w' ⟨⟨r', code, rfl⟩, hq⟩)
  exact hq.out

theorem delC_any (r : Option Addr) (ca cb : Nat) (i j : Int) (w : World) (Q : Ending → World → Prop) (h0 : w.cell? ⟨ca, 0, none⟩ = some (.int .i64 i)) (h1 : w.cell? ⟨cb, 0, none⟩ = some (.int .i64 j))
    (hQ : ∀ e w', Q e w' → ∃ r code, e = .returned (.tuple #[.pointer r, .int .i64 code]))
    (hc : Calls Tryd.prog 43 #[.pointer r, .int .i64 i, .int .i64 j] w Q) :
    Calls Tryd.prog 42 #[.pointer r, .pointer (some ⟨ca, 0, none⟩), .pointer (some ⟨cb, 0, none⟩)] w Q := by
  have HC := Lib.hid (hc.mono fun e w' hq => (show (∃ r code, e = .returned (.tuple #[.pointer r, .int .i64 code])) ∧ Hid (Q e w') from ⟨hQ e w' hq, hq⟩))
  clear hc hQ
  go_enter Tryd.func42, Tryd.ntmps42
  go_wp2_with (go_at_call 43; refine HC.out.mono ?_; rintro e w' ⟨⟨r', code, rfl⟩, hq⟩)
  exact hq.out

theorem made_two {B : Nat} {M : Mp} {w : World} {P : Option T → Prop} : ∀ e w', RopeMade B M w P e w' → ∃ r code, e = .returned (.tuple #[.pointer r, .int .i64 code]) :=
  fun _ _ ⟨_, b, _, h, _⟩ => ⟨some ⟨b, 0, none⟩, 0, h⟩
theorem refused_two {w : World} {code : Int} : ∀ e w', Refused w code e w' → ∃ r code, e = .returned (.tuple #[.pointer r, .int .i64 code]) :=
  fun _ _ ⟨h, _⟩ => ⟨none, code, h⟩

theorem edit_none {B : Nat} {M : Mp} {w : World} {p : Nat} {t : Tab} {c : Nat} (h : FT B M w p t c) (s : ByteArray) (hs : s.size ≤ 1000000) (hf : t.file s.data.toList = none) (fv : Value) :
    Calls Tryd.prog 38 #[.pointer (some ⟨p, 0, none⟩), .string s, fv] w fun e w' => e = .returned (.int .i64 2) ∧ w = w' := by
  have hA := at_any h s hs
  rw [atPtr_file t _ hf] at hA
  have HA := Lib.hid hA
  clear hA hf h
  go_enter Tryd.func38, Tryd.ntmps38
  go_wp2_with (go_at_call 27; refine HA.out.mono ?_; rintro e w' ⟨rfl, rfl⟩)
  go_ret
  exact ⟨rfl, rfl⟩

/-- What an edit that went through makes. -/
def EditPost (B : Nat) (M : Mp) (w : World) (p : Nat) (t : Tab) (c : Nat) (l : List UInt8) (P : Option T → Prop) (e : Ending) (w' : World) : Prop :=
  TabPost B M w p t c l (fun x => ∃ b o, x = some (b, o) ∧ P o) e w'

theorem edit_ins_no {B : Nat} {M : Mp} {w : World} {p : Nat} {t : Tab} {c : Nat} (h : FT B M w p t c) (s : ByteArray) (hs : s.size ≤ 1000000) {x : Nat × Option T} (hf : t.file s.data.toList = some x) (a b : Value) (code : Int) (hco : code ≠ 0)
    (hc : Calls Tryd.prog 39 #[.pointer (some ⟨x.1, 0, none⟩), a, b] w (Refused w code)) :
    Calls Tryd.prog 38 #[.pointer (some ⟨p, 0, none⟩), .string s, .func (.func 39) #[] #[a, b]] w fun e w' => e = .returned (.int .i64 code) ∧ w = w' := by
  have hA := at_any h s hs
  obtain ⟨e, he, hx, -⟩ := Tab.file_some hf
  rw [atPtr_some he hx] at hA
  obtain ⟨f0, -⟩ := h.fileCells he
  rw [hx] at f0
  simp only [txtPtr, Option.map_some] at f0
  have hc1 : (code != 0) = true := by simpa using hco
  have HA := Lib.hid hA
  have HC := Lib.hid hc
  clear hA hf h he hx hc hco
  go_enter Tryd.func38, Tryd.ntmps38
  go_wp2_with (first
    | (go_at_call 27; refine HA.out.mono ?_; rintro e w' ⟨rfl, rfl⟩)
    | (go_at_call 39; refine HC.out.mono ?_; rintro e w' ⟨rfl, rfl⟩))
  go_ret
  exact ⟨rfl, rfl⟩

theorem edit_del_no {B : Nat} {M : Mp} {w : World} {p : Nat} {t : Tab} {c : Nat} (h : FT B M w p t c) (s : ByteArray) (hs : s.size ≤ 1000000) {x : Nat × Option T} (hf : t.file s.data.toList = some x) (a b : Value) (code : Int) (hco : code ≠ 0)
    (hc : Calls Tryd.prog 42 #[.pointer (some ⟨x.1, 0, none⟩), a, b] w (Refused w code)) :
    Calls Tryd.prog 38 #[.pointer (some ⟨p, 0, none⟩), .string s, .func (.func 42) #[] #[a, b]] w fun e w' => e = .returned (.int .i64 code) ∧ w = w' := by
  have hA := at_any h s hs
  obtain ⟨e, he, hx, -⟩ := Tab.file_some hf
  rw [atPtr_some he hx] at hA
  obtain ⟨f0, -⟩ := h.fileCells he
  rw [hx] at f0
  simp only [txtPtr, Option.map_some] at f0
  have hc1 : (code != 0) = true := by simpa using hco
  have HA := Lib.hid hA
  have HC := Lib.hid hc
  clear hA hf h he hx hc hco
  go_enter Tryd.func38, Tryd.ntmps38
  go_wp2_with (first
    | (go_at_call 27; refine HA.out.mono ?_; rintro e w' ⟨rfl, rfl⟩)
    | (go_at_call 42; refine HC.out.mono ?_; rintro e w' ⟨rfl, rfl⟩))
  go_ret
  exact ⟨rfl, rfl⟩

theorem edit_end {B : Nat} {M : Mp} {w : World} {p : Nat} {t : Tab} {c : Nat} (h : FT B M w p t c) {l : List UInt8} {e : Ent} (he : t.ent l = some e) (hn : e.n < 1000000) (P : Option T → Prop) :
    ∀ M1 w1 b o, RP M1 w1 (some ⟨b, 0, none⟩) o → P o → St B M w M1 w1 → ∀ z w2, Changed e (some ⟨b, 0, none⟩) w1 z w2 → EditPost B M w p t c l P (.returned (.int .i64 0)) w2 :=
  fun M1 w1 b o hr hp s z w2 hc => by
    obtain ⟨f, k⟩ := turn_post h s he hn (some (b, o)) (fun y hy => by cases hy; exact hr) hc
    exact ⟨rfl, M1, _, some (b, o), ⟨b, o, rfl, hp⟩, did_turn h.paths he _, f, k⟩

theorem edit_ins_ok {B : Nat} {M : Mp} {w : World} {p : Nat} {t : Tab} {c : Nat} (h : FT B M w p t c) (s : ByteArray) (hs : s.size ≤ 1000000) {x : Nat × Option T} (hf : t.file s.data.toList = some x) (hv : t.ver s.data.toList < 1000000) (a b : Value) (P : Option T → Prop)
    (hc : Calls Tryd.prog 39 #[.pointer (some ⟨x.1, 0, none⟩), a, b] w (RopeMade B M w P)) :
    Calls Tryd.prog 38 #[.pointer (some ⟨p, 0, none⟩), .string s, .func (.func 39) #[] #[a, b]] w (EditPost B M w p t c s.data.toList P) := by
  have hA := at_any h s hs
  obtain ⟨e, he, hx, hn⟩ := Tab.file_some hf
  rw [hn] at hv
  rw [atPtr_some he hx] at hA
  obtain ⟨f0, -⟩ := h.fileCells he
  rw [hx] at f0
  simp only [txtPtr, Option.map_some] at f0
  have HA := Lib.hid hA
  have HC := Lib.hid hc
  have HE := Lib.hid (edit_end h he hv P)
  have HH := Lib.hid (fun M1 w1 (s : St B M w M1 w1) r => change_any e r w1 ((h.step s).file e (h.ent_mem he)) (by omega))
  clear hA hf h he hx hc hv
  go_enter Tryd.func38, Tryd.ntmps38
  go_wp2_with (first
    | (go_at_call 27; refine HA.out.mono ?_; rintro e' w' ⟨rfl, rfl⟩)
    | (go_at_call 39; refine HC.out.mono ?_; rintro e' w1 ⟨M1, b1, o1, rfl, r1, p1, s1⟩; have S1 := Lib.hid s1; have R1 := Lib.hid r1; have P1 := Lib.hid p1; clear s1 r1 p1)
    | (go_at_call 30; refine (HH.out M1 w1 S1.out (some ⟨b1, 0, none⟩)).mono ?_; rintro z w2 hch; have hz := hch.1; subst hz; have hfin := HE.out M1 w1 b1 o1 R1.out P1.out S1.out _ _ hch; have HF := Lib.hid hfin; clear hch hfin))
  go_ret
  exact HF.out

theorem edit_del_ok {B : Nat} {M : Mp} {w : World} {p : Nat} {t : Tab} {c : Nat} (h : FT B M w p t c) (s : ByteArray) (hs : s.size ≤ 1000000) {x : Nat × Option T} (hf : t.file s.data.toList = some x) (hv : t.ver s.data.toList < 1000000) (a b : Value) (P : Option T → Prop)
    (hc : Calls Tryd.prog 42 #[.pointer (some ⟨x.1, 0, none⟩), a, b] w (RopeMade B M w P)) :
    Calls Tryd.prog 38 #[.pointer (some ⟨p, 0, none⟩), .string s, .func (.func 42) #[] #[a, b]] w (EditPost B M w p t c s.data.toList P) := by
  have hA := at_any h s hs
  obtain ⟨e, he, hx, hn⟩ := Tab.file_some hf
  rw [hn] at hv
  rw [atPtr_some he hx] at hA
  obtain ⟨f0, -⟩ := h.fileCells he
  rw [hx] at f0
  simp only [txtPtr, Option.map_some] at f0
  have HA := Lib.hid hA
  have HC := Lib.hid hc
  have HE := Lib.hid (edit_end h he hv P)
  have HH := Lib.hid (fun M1 w1 (s : St B M w M1 w1) r => change_any e r w1 ((h.step s).file e (h.ent_mem he)) (by omega))
  clear hA hf h he hx hc hv
  go_enter Tryd.func38, Tryd.ntmps38
  go_wp2_with (first
    | (go_at_call 27; refine HA.out.mono ?_; rintro e' w' ⟨rfl, rfl⟩)
    | (go_at_call 42; refine HC.out.mono ?_; rintro e' w1 ⟨M1, b1, o1, rfl, r1, p1, s1⟩; have S1 := Lib.hid s1; have R1 := Lib.hid r1; have P1 := Lib.hid p1; clear s1 r1 p1)
    | (go_at_call 30; refine (HH.out M1 w1 S1.out (some ⟨b1, 0, none⟩)).mono ?_; rintro z w2 hch; have hz := hch.1; subst hz; have hfin := HE.out M1 w1 b1 o1 R1.out P1.out S1.out _ _ hch; have HF := Lib.hid hfin; clear hch hfin))
  go_ret
  exact HF.out

/-- Two boxes laid ahead of a step. -/
theorem TabPost.boxed {B : Nat} {M : Mp} {w : World} {p : Nat} {t : Tab} {c : Nat} {l : List UInt8} {P : Option (Nat × Option T) → Prop} {e : Ending} {w' : World} (o1 o2 : Obj)
    (h : TabPost B M ((w.alloc o1).alloc o2) p t c l P e w') : TabPost B M w p t c l P e w' := by
  obtain ⟨he, M', t', x, hp, hd, hf, hk⟩ := h
  exact ⟨he, M', t', x, hp, hd, hf, (((Ks.refl (mine p t) M w).below ((Below.refl _ w).alloc (Nat.le_refl _) _)).below ((Below.refl _ _).alloc (Nat.le_refl _) _)).trans hk fun _ hj _ => hj⟩

theorem box_cells (w : World) (u v : Value) (s t : TypeId) :
    ((w.alloc (.cells #[u] s)).alloc (.cells #[v] t)).cell? ⟨w.heap.size, 0, none⟩ = some u ∧ ((w.alloc (.cells #[u] s)).alloc (.cells #[v] t)).cell? ⟨w.heap.size + 1, 0, none⟩ = some v := by
  refine ⟨?_, ?_⟩
  · rw [World.cell?_of_block (w := w.alloc (.cells #[u] s)) (Below.heap_alloc _ _ _ (by simp)), Lib.cell_of_heap (heap_alloc_new w _)]
    rfl
  · have h := heap_alloc_new (w.alloc (.cells #[u] s)) (.cells #[v] t)
    rw [show (w.alloc (.cells #[u] s)).heap.size = w.heap.size + 1 from by simp] at h
    rw [Lib.cell_of_heap h]
    rfl

theorem insert_file {B : Nat} {M : Mp} {w : World} {p : Nat} {t : Tab} {c : Nat} (h : FT B M w p t c) (s : ByteArray) (hs : s.size ≤ 1000000) {b : Nat} {o : Option T} (hf : t.file s.data.toList = some (b, o)) (hv : t.ver s.data.toList < 1000000)
    (i : Nat) (m : ByteArray) (hi : i ≤ osize o) (hm : osize o + m.size ≤ 65536) :
    Calls Tryd.prog 18 #[.pointer (some ⟨p, 0, none⟩), .string s, .int .i64 (i : Int), .string m] w (EditPost B M w p t c s.data.toList (Replaced o i i m)) := by
  have h2 := (h.alloc (.cells #[.int .i64 (i : Int)] 3)).alloc (.cells #[.string m] 9)
  obtain ⟨k0, k1⟩ := box_cells w (.int .i64 (i : Int)) (.string m) 3 9
  obtain ⟨e, he, hx, -⟩ := Tab.file_some hf
  have hr := h2.rope e (h2.ent_mem he) _ hx
  have hc := edit_ins_ok h2 s hs hf hv (.pointer (some ⟨w.heap.size, 0, none⟩)) (.pointer (some ⟨w.heap.size + 1, 0, none⟩)) _ (insC_any _ _ _ _ _ _ _ k0 k1 made_two (insert_any h2.inv hr i m hi hm))
  have HC := Lib.hid hc
  clear h h2 hc hf hv he hx hr k0 k1 hi hm hs
  go_enter Tryd.func18, Tryd.ntmps18
  go_wp2_with (go_at_call 38; refine HC.out.mono ?_; rintro e' w' hq; have hz := hq.1; subst hz; have HQ := Lib.hid (TabPost.boxed _ _ hq); clear hq)
  go_ret
  exact HQ.out

theorem insert_file_no {B : Nat} {M : Mp} {w : World} {p : Nat} {t : Tab} {c : Nat} (h : FT B M w p t c) (s : ByteArray) (hs : s.size ≤ 1000000) {b : Nat} {o : Option T} (hf : t.file s.data.toList = some (b, o)) (i : Int) (m : ByteArray) (hi : ¬ (0 ≤ i ∧ i ≤ osize o)) :
    Calls Tryd.prog 18 #[.pointer (some ⟨p, 0, none⟩), .string s, .int .i64 i, .string m] w fun e w' => e = .returned (.int .i64 1) ∧ Below w.heap.size w w' := by
  have h2 := (h.alloc (.cells #[.int .i64 i] 3)).alloc (.cells #[.string m] 9)
  obtain ⟨k0, k1⟩ := box_cells w (.int .i64 i) (.string m) 3 9
  obtain ⟨e, he, hx, -⟩ := Tab.file_some hf
  have hr := h2.rope e (h2.ent_mem he) _ hx
  have hc := edit_ins_no h2 s hs hf (.pointer (some ⟨w.heap.size, 0, none⟩)) (.pointer (some ⟨w.heap.size + 1, 0, none⟩)) 1 (by decide) (insC_any _ _ _ _ _ _ _ k0 k1 refused_two (insert_arg h2.inv hr i m hi))
  have HB := Lib.hid (((Below.refl w.heap.size w).alloc (Nat.le_refl _) (.cells #[.int .i64 i] 3)).alloc (by simp) (.cells #[.string m] 9))
  have HC := Lib.hid hc
  clear h h2 hc hf he hx hr k0 k1 hi hs
  go_enter Tryd.func18, Tryd.ntmps18
  go_wp2_with (go_at_call 38; refine HC.out.mono ?_; rintro e' w' ⟨rfl, rfl⟩)
  go_ret
  exact ⟨rfl, HB.out⟩

theorem delete_file {B : Nat} {M : Mp} {w : World} {p : Nat} {t : Tab} {c : Nat} (h : FT B M w p t c) (s : ByteArray) (hs : s.size ≤ 1000000) {b : Nat} {o : Option T} (hf : t.file s.data.toList = some (b, o)) (hv : t.ver s.data.toList < 1000000)
    (i j : Nat) (hij : i ≤ j) (hj : j ≤ osize o) :
    Calls Tryd.prog 22 #[.pointer (some ⟨p, 0, none⟩), .string s, .int .i64 (i : Int), .int .i64 (j : Int)] w (EditPost B M w p t c s.data.toList (Replaced o i j ⟨#[]⟩)) := by
  have h2 := (h.alloc (.cells #[.int .i64 (i : Int)] 3)).alloc (.cells #[.int .i64 (j : Int)] 3)
  obtain ⟨k0, k1⟩ := box_cells w (.int .i64 (i : Int)) (.int .i64 (j : Int)) 3 3
  obtain ⟨e, he, hx, -⟩ := Tab.file_some hf
  have hr := h2.rope e (h2.ent_mem he) _ hx
  have hc := edit_del_ok h2 s hs hf hv (.pointer (some ⟨w.heap.size, 0, none⟩)) (.pointer (some ⟨w.heap.size + 1, 0, none⟩)) _ (delC_any _ _ _ _ _ _ _ k0 k1 made_two (delete_any h2.inv hr i j hij hj))
  have HC := Lib.hid hc
  clear h h2 hc hf hv he hx hr k0 k1 hij hj hs
  go_enter Tryd.func22, Tryd.ntmps22
  go_wp2_with (go_at_call 38; refine HC.out.mono ?_; rintro e' w' hq; have hz := hq.1; subst hz; have HQ := Lib.hid (TabPost.boxed _ _ hq); clear hq)
  go_ret
  exact HQ.out

end Go.Proofs.YtfjdfdpelilelaaDoor
