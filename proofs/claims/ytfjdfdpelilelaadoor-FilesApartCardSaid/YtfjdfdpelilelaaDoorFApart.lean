/-
  FilesApart: the walk.
-/
import Derived.Test.YtfjdfdpelilelaaDoorFName
import Derived.Test.YtfjdfdpelilelaaDoorFShort
import Derived.Test.YtfjdfdpelilelaaDoorZeros
import Derived.Test.YtfjdfdpelilelaaDoorPiece
namespace Go.Proofs.YtfjdfdpelilelaaDoor
open Go.RowKit

theorem newNone2 (W : World) : Calls Tryd.prog 10 #[.slice none 0 0] W fun e w' =>
    ∃ p, e = .returned (.tuple #[.pointer (some ⟨p, 0, none⟩), .int .i64 0]) ∧ LS W p (tab0 []) 0 (fun _ => none) w' := by
  refine (newDirs_any (cap := 0) [] W (fun i x hx => by simp at hx) (by decide) (by decide)).mono fun e w' hp => ?_
  rcases hp with ⟨-, v, he, hst⟩ | ⟨hn, -⟩
  · exact ⟨_, he, LS.made (Below.refl _ _) (Nat.le_refl _) hst.tbl hst.own hst.below⟩
  · exact absurd hn (by decide)

theorem LS.size2 {W : World} {p : Nat} {t : Tab} {c : Nat} {M : Mp} {w : World} (h : LS W p t c M w) : W.heap.size ≤ w.heap.size := h.ks.size

/-- The first files, each of its own text, made once. -/
structure ApartSt (xs : List (List UInt8)) (k : Nat) (t : Tab) : Prop where
  has : ∀ j x, j < k → xs[j]? = some x → ∃ b o, t.file (nameL j) = some (b, o) ∧ otext o = x ∧ t.ver (nameL j) = 1
  not : ∀ j, k ≤ j → j < 60 → t.file (nameL j) = none ∧ t.ver (nameL j) = 0
  few : t.ents.length ≤ k

theorem apart_start (xs : List (List UInt8)) : ApartSt xs 0 (tab0 []) := ⟨fun j _ hj => by omega, fun _ _ _ => ⟨rfl, rfl⟩, Nat.le_refl _⟩

theorem apart_step {xs : List (List UInt8)} {k : Nat} {t t' : Tab} (h : ApartSt xs k t) (hk : k < 60) {x : List UInt8} (hx : xs[k]? = some x) {b : Nat} {o : Option T} (d : Did t t' (nameL k) (some (b, o))) (ho : otext o = x) : ApartSt xs (k + 1) t' := by
  have hn := h.not k (Nat.le_refl _) hk
  refine ⟨fun j y hj hy => ?_, fun j hj hj2 => ?_, ?_⟩
  · by_cases e : j = k
    · subst e
      rw [hx] at hy
      cases hy
      obtain ⟨s1, s2⟩ := d.self
      exact ⟨b, o, s1, ho, by rw [s2, hn.2]⟩
    · obtain ⟨b', o', h1, h2, h3⟩ := h.has j y (by omega) hy
      obtain ⟨s1, s2⟩ := d.other (k := nameL j) fun z => e (name_inj (by omega) hk z)
      exact ⟨b', o', by rw [s1, h1], h2, by rw [s2, h3]⟩
  · obtain ⟨s1, s2⟩ := d.other (k := nameL j) fun z => by have := name_inj hj2 hk z; omega
    rw [s1, s2]
    exact h.not j (by omega) hj2
  · have := d.len
    have := h.few
    omega

set_option maxRecDepth 100000 in
theorem apartVoid {a : Option Addr} {cap : Nat} (xs : List (List UInt8)) (at' : Int) (m : ByteArray) (W : World) (hS : StrsAt a xs W) (hlen : xs.length ≤ 9223372036854775807) (hb : ∀ x ∈ xs, x.length ≤ 9223372036854775807)
    (h : xs.length = 0 ∨ 20 < xs.length ∨ shortB xs 1000 = false ∨ 100 < m.size) :
    Calls Tryd.prog 5 #[.slice a xs.length cap, .int .i64 at', .string m] W fun e w' => e = .returned (.bool true) ∧ Below W.heap.size W w' := by
  have hnot := not_run
  have HSH := Lib.hid (short_any (cap := cap) xs W hS 1000 (by decide) hlen hb)
  clear hS hb
  by_cases h0 : xs.length = 0
  · have h0i : ((xs.length : Int) == 0) = true := by rw [beq_iff_eq]; omega
    clear h
    go_enter Tryd.func5, Tryd.ntmps5
    go_wp2_with (go_at_call 9; refine (fAwake_any _).mono ?_; rintro e w' ⟨rfl, hb⟩)
    go_ret
    exact ⟨rfl, hb⟩
  · have h0i : ((xs.length : Int) == 0) = false := by rw [beq_eq_false_iff_ne]; omega
    by_cases h20 : 20 < xs.length
    · have h20i : (20 : Int) < (xs.length : Int) := by omega
      clear h
      go_enter Tryd.func5, Tryd.ntmps5
      go_wp2_with (go_at_call 9; refine (fAwake_any _).mono ?_; rintro e w' ⟨rfl, hb⟩)
      go_ret
      exact ⟨rfl, hb⟩
    · have h20i : ¬ ((20 : Int) < (xs.length : Int)) := by omega
      cases hsh : shortB xs 1000 with
      | false =>
        rw [hsh] at HSH
        clear h hsh
        go_enter Tryd.func5, Tryd.ntmps5
        go_wp2_with (first
          | (go_at_call 7; refine HSH.out.mono ?_; rintro e w' ⟨rfl, rfl⟩)
          | (go_at_call 9; refine (fAwake_any _).mono ?_; rintro e w' ⟨rfl, hb⟩))
        go_ret
        exact ⟨rfl, hb⟩
      | true =>
        rw [hsh] at HSH
        have h100 : (100 : Int) < (m.size : Int) := by
          rcases h with h | h | h | h
          · omega
          · omega
          · rw [hsh] at h; cases h
          · omega
        clear h hsh
        go_enter Tryd.func5, Tryd.ntmps5
        go_wp2_with (first
          | (go_at_call 7; refine HSH.out.mono ?_; rintro e w' ⟨rfl, rfl⟩)
          | (go_at_call 9; refine (fAwake_any _).mono ?_; rintro e w' ⟨rfl, hb⟩))
        go_ret
        exact ⟨rfl, hb⟩

def ApartRel (W : World) (p : Nat) (xs : List (List UInt8)) (i : Value) (wr : World) : Prop :=
  ∃ (k : Nat) (M : Mp) (t : Tab), i = .int .i64 (k : Int) ∧ k ≤ xs.length ∧ ApartSt xs k t ∧ LS W p t k M wr

/-- A law's table, and a rope that was told. -/
structure LR (W : World) (p : Nat) (t : Tab) (c : Nat) (M : Mp) (w : World) (r : Nat) (o : Option T) : Prop where
  ls : LS W p t c M w
  rp : RP M w (some ⟨r, 0, none⟩) o

theorem FT.rope_kept {B : Nat} {M M' : Mp} {w w' : World} {p : Nat} {t : Tab} {c : Nat} (h : FT B M w p t c) (k : Ks (mine p t) M w M' w') {r : Option Addr} {o : Option T} (hr : RP M w r o) : RP M' w' r o := by
  rcases hr with hr | ⟨b, q, rfl, h2, h3, h4⟩
  · exact .inl hr
  · refine .inr ⟨b, q, rfl, (k.ext b (lt_of_heap h3)).trans h2, (k.block b (lt_of_heap h3) h2 fun hb => ?_).trans h3, h4.ext fun b' u hu => (k.ext b' (h.inv.lt hu)).trans hu⟩
    simp only [mine, List.mem_cons, List.mem_append, Option.mem_toList, List.mem_map] at hb
    rcases hb with hb | hb | ⟨e, he', hb⟩
    · subst hb
      obtain ⟨ds, ht, _⟩ := h.tbl
      rw [h3] at ht
      simp [tblObj] at ht
    · have hm := h.map
      unfold MapAt at hm
      rw [hb] at hm
      simp only at hm
      obtain ⟨D, ⟨es, clock, hh, _⟩, _⟩ := hm
      rw [h3] at hh
      cases hh
    · have := h.file e he'
      rw [hb, h3] at this
      simp [fileObj] at this

theorem FT.file_rope {B : Nat} {M : Mp} {w : World} {p : Nat} {t : Tab} {c : Nat} (h : FT B M w p t c) {l : List UInt8} {b : Nat} {o : Option T} (hf : t.file l = some (b, o)) : RP M w (some ⟨b, 0, none⟩) o := by
  obtain ⟨e, he, hx, -⟩ := Tab.file_some hf
  exact h.rope e (Tab.ent_path he).2 _ hx

section
variable {W : World} {p : Nat} {t : Tab} {c : Nat} {M : Mp} {w w' : World} {r : Nat} {o : Option T}

theorem LR.step {M' : Mp} (h : LR W p t c M w r o) (s : St W.heap.size M w M' w') : LR W p t c M' w' r o := ⟨h.ls.step s, h.rp.step h.ls.ft.inv s⟩
theorem LR.below (h : LR W p t c M w r o) (b : Below w.heap.size w w') : LR W p t c M w' r o := h.step (St.below h.ls.ft.inv b)
theorem LR.drew (h : LR W p t c M w r o) : LR W p t c M w.drew r o := h.below (Below.refl _ _).drew

def LRPost (W : World) (p : Nat) (t : Tab) (c : Nat) (l : List UInt8) (P : Option T → Prop) (r : Nat) (o : Option T) (e : Ending) (w' : World) : Prop :=
  e = .returned (.int .i64 0) ∧ ∃ M' t' b' o', P o' ∧ Did t t' l (some (b', o')) ∧ LR W p t' c M' w' r o

theorem LR.edit {c' : Nat} (h : LR W p t c M w r o) {l : List UInt8} {P : Option T → Prop} {e : Ending} (q : EditPost W.heap.size M w p t c' l P e w') : LRPost W p t c' l P r o e w' := by
  obtain ⟨he, M', t', x, ⟨b', o', rfl, ho⟩, hd, hf, hk⟩ := q
  exact ⟨he, M', t', b', o', ho, hd, h.ls.next hf hk, h.ls.ft.rope_kept hk h.rp⟩

theorem LR.insert (h : LR W p t c M w r o) (s : ByteArray) (hs : s.size ≤ 1000000) {b : Nat} {fo : Option T} (hf : t.file s.data.toList = some (b, fo)) (hv : t.ver s.data.toList < 1000000) (i : Nat) (m : ByteArray) (hi : i ≤ osize fo) (hm : osize fo + m.size ≤ 65536) :
    Calls Tryd.prog 18 #[.pointer (some ⟨p, 0, none⟩), .string s, .int .i64 (i : Int), .string m] w (LRPost W p t c s.data.toList (Replaced fo i i m) r o) :=
  (insert_file h.ls.ft s hs hf hv i m hi hm).mono fun _ _ q => h.edit q

theorem LR.insert0 (h : LR W p t c M w r o) (s : ByteArray) (hs : s.size ≤ 1000000) {b : Nat} {fo : Option T} (hf : t.file s.data.toList = some (b, fo)) (hv : t.ver s.data.toList < 1000000) (m : ByteArray) (hm : osize fo + m.size ≤ 65536) :
    Calls Tryd.prog 18 #[.pointer (some ⟨p, 0, none⟩), .string s, .int .i64 0, .string m] w (LRPost W p t c s.data.toList (Replaced fo 0 0 m) r o) := h.insert s hs hf hv 0 m (Nat.zero_le _) hm

theorem LR.delete (h : LR W p t c M w r o) (s : ByteArray) (hs : s.size ≤ 1000000) {b : Nat} {fo : Option T} (hf : t.file s.data.toList = some (b, fo)) (hv : t.ver s.data.toList < 1000000) (i j : Nat) (hij : i ≤ j) (hj : j ≤ osize fo) :
    Calls Tryd.prog 22 #[.pointer (some ⟨p, 0, none⟩), .string s, .int .i64 (i : Int), .int .i64 (j : Int)] w (LRPost W p t c s.data.toList (Replaced fo i j ⟨#[]⟩) r o) :=
  (delete_file h.ls.ft s hs hf hv i j hij hj).mono fun _ _ q => h.edit q

theorem LR.delete0 (h : LR W p t c M w r o) (s : ByteArray) (hs : s.size ≤ 1000000) {b : Nat} {fo : Option T} (hf : t.file s.data.toList = some (b, fo)) (hv : t.ver s.data.toList < 1000000) (j : Nat) (hj : j ≤ osize fo) :
    Calls Tryd.prog 22 #[.pointer (some ⟨p, 0, none⟩), .string s, .int .i64 0, .int .i64 (j : Int)] w (LRPost W p t c s.data.toList (Replaced fo 0 j ⟨#[]⟩) r o) := h.delete s hs hf hv 0 j (Nat.zero_le _) hj

theorem LRPost.mono {l : List UInt8} {P Q : Option T → Prop} {e : Ending} (h : LRPost W p t c l P r o e w') (hq : ∀ o, P o → Q o) : LRPost W p t c l Q r o e w' := by
  obtain ⟨he, M', t', b', o', hp, hd, hl⟩ := h
  exact ⟨he, M', t', b', o', hq _ hp, hd, hl⟩

theorem ap_ins1 (h : LR W p t c M w r o) {i : Nat} {b : Nat} {fo : Option T} {x : List UInt8} (hf : t.file (nameL i) = some (b, fo)) (hv : t.ver (nameL i) < 100) (hx : otext fo = x) (hxl : x.length ≤ 1100) (m : ByteArray) (hm : m.size ≤ 100) :
    Calls Tryd.prog 18 #[.pointer (some ⟨p, 0, none⟩), .string (nameS i), .int .i64 0, .string m] w (LRPost W p t c (nameL i) (fun o => otext o = m.data.toList ++ x) r o) :=
  (h.insert0 (nameS i) (by rw [nameS_size]; decide) hf (by rw [nameS_list]; omega) m (by rw [osize_eq, hx]; omega)).mono fun _ _ q => q.mono fun o' ⟨ho, _⟩ => by
    rw [ho, hx, List.take_zero, List.drop_zero, List.nil_append]

theorem ap_del (h : LR W p t c M w r o) {i : Nat} {b : Nat} {fo : Option T} {x : List UInt8} (hf : t.file (nameL i) = some (b, fo)) (hv : t.ver (nameL i) < 100) (m : ByteArray) (hx : otext fo = m.data.toList ++ x) :
    Calls Tryd.prog 22 #[.pointer (some ⟨p, 0, none⟩), .string (nameS i), .int .i64 0, .int .i64 (m.size : Int)] w (LRPost W p t c (nameL i) (fun o => otext o = x) r o) :=
  (h.delete0 (nameS i) (by rw [nameS_size]; decide) hf (by rw [nameS_list]; omega) m.size (by rw [osize_eq, hx, List.length_append, psize]; omega)).mono fun _ _ q => q.mono fun o' ⟨ho, _⟩ => by
    rw [ho, hx, List.take_zero, List.nil_append, List.drop_append, List.drop_of_length_le (by rw [psize]; exact Nat.le_refl _), psize, Nat.sub_self, List.drop_zero]
    rfl

theorem ap_ins2 (h : LR W p t c M w r o) {i : Nat} {b : Nat} {fo : Option T} {x : List UInt8} (hf : t.file (nameL i) = some (b, fo)) (hv : t.ver (nameL i) < 100) (hx : otext fo = x) (hxl : x.length ≤ 1100) (z : ByteArray) (hz : z.size = x.length) (m : ByteArray) (hm : m.size ≤ 100) :
    Calls Tryd.prog 18 #[.pointer (some ⟨p, 0, none⟩), .string (nameS i), .int .i64 (z.size : Int), .string m] w (LRPost W p t c (nameL i) (fun o => otext o = x ++ m.data.toList) r o) :=
  (h.insert (nameS i) (by rw [nameS_size]; decide) hf (by rw [nameS_list]; omega) z.size m (by rw [osize_eq, hx]; omega) (by rw [osize_eq, hx]; omega)).mono fun _ _ q => q.mono fun o' ⟨ho, _⟩ => by
    rw [ho, hx, hz, List.take_length, List.drop_length, List.append_nil]
end

def Apart2Rel (W : World) (p : Nat) (t : Tab) (c : Nat) (M : Mp) (r : Nat) (o : Option T) (n : Nat) (i : Value) (wr : World) : Prop :=
  ∃ j : Nat, i = .int .i64 (j : Int) ∧ j ≤ n ∧ LR W p t c M wr r o

/-- What the files are behind the edits. -/
theorem apart_all {xs : List (List UInt8)} {k : Nat} {t t4 t6 t8 : Tab} (h : ApartSt xs k t) (hk : k ≤ 20) {i : Nat} (hi : i < k) {x : List UInt8} (hx : xs[i]? = some x) {m : List UInt8} {b4 b6 b8 : Nat} {o4 o6 o8 : Option T}
    (d4 : Did t t4 (nameL i) (some (b4, o4))) (d6 : Did t4 t6 (nameL i) (some (b6, o6))) (d8 : Did t6 t8 (nameL i) (some (b8, o8))) (hv : t8.ver (nameL i) = 4) (ho : otext o8 = x ++ m) :
    ∀ j y, j < k → xs[j]? = some y → ∃ bj oj, t8.file (nameL j) = some (bj, oj) ∧ (j = i → otext oj = y ++ m ∧ t8.ver (nameL j) = 4) ∧ (j ≠ i → otext oj = y ∧ t8.ver (nameL j) = 1) := by
  intro j y hj hy
  by_cases e : j = i
  · subst e
    rw [hx] at hy
    cases hy
    exact ⟨b8, o8, d8.self.1, fun _ => ⟨ho, hv⟩, fun h => absurd rfl h⟩
  · obtain ⟨b, o, h1, h2, h3⟩ := h.has j y hj hy
    have hne : nameL j ≠ nameL i := fun z => e (name_inj (by omega) (by omega) z)
    have s4 := d4.other hne
    have s6 := d6.other hne
    have s8 := d8.other hne
    exact ⟨b, o, s8.1.trans (s6.1.trans (s4.1.trans h1)), fun h => absurd h e, fun _ => ⟨h2, s8.2.trans (s6.2.trans (s4.2.trans h3))⟩⟩

theorem bytes_list (b : ByteArray) : (⟨b.data.toList.toArray⟩ : ByteArray) = b := by
  apply ByteArray.ext
  simp

theorem bytes_cat (b m : ByteArray) : (⟨(b.data.toList ++ m.data.toList).toArray⟩ : ByteArray) = b ++ m := by
  apply ByteArray.ext
  simp

end Go.Proofs.YtfjdfdpelilelaaDoor
