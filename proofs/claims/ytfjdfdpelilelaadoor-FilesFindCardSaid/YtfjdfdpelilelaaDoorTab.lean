/-
  All files, as a list: plain facts, of no program.
-/
import Derived.Test.YtfjdfdpelilelaaDoorTree
namespace Go.Proofs.YtfjdfdpelilelaaDoor

/-- What is known of a path: where it lies, its text (the rope's place, and its tree), and how often it changed. -/
structure Ent where
  path : List UInt8
  blk : Nat
  txt : Option (Nat × Option T)
  n : Nat

structure Tab where
  dirs : List (List UInt8)
  mb : Option Nat
  ents : List Ent

def Tab.ent (t : Tab) (l : List UInt8) : Option Ent := t.ents.find? fun e => e.path == l
def Tab.file (t : Tab) (l : List UInt8) : Option (Nat × Option T) := (t.ent l).bind (·.txt)
def Tab.ver (t : Tab) (l : List UInt8) : Nat := match t.ent l with | none => 0 | some e => e.n
def Tab.count (t : Tab) : Nat := t.ents.countP fun e => e.txt.isSome
def Tab.there (t : Tab) : List (List UInt8) := (t.ents.filter fun e => e.txt.isSome).map (·.path)

theorem Tab.there_length (t : Tab) : t.there.length = t.count := by
  unfold Tab.there Tab.count
  rw [List.length_map, ← List.countP_eq_length_filter]

/-- One path's text becomes another one; that is a change. -/
def Ent.turned (e : Ent) (x : Option (Nat × Option T)) : Ent := { e with txt := x, n := e.n + 1 }
def Tab.turn (t : Tab) (l : List UInt8) (x : Option (Nat × Option T)) : Tab := { t with ents := t.ents.map fun e => if e.path == l then e.turned x else e }
/-- A new path, of which nothing is known yet. -/
def Tab.add (t : Tab) (l : List UInt8) (b m : Nat) : Tab := { t with mb := some m, ents := t.ents ++ [⟨l, b, none, 0⟩] }

theorem find_none_paths {es : List Ent} {l : List UInt8} : (es.find? fun e => e.path == l) = none ↔ l ∉ es.map (·.path) := by
  rw [List.find?_eq_none]
  simp only [List.mem_map, not_exists, not_and, beq_iff_eq]

theorem Tab.ent_path {t : Tab} {l : List UInt8} {e : Ent} (h : t.ent l = some e) : e.path = l ∧ e ∈ t.ents := by
  unfold Tab.ent at h
  exact ⟨by simpa using List.find?_some h, List.mem_of_find?_eq_some h⟩

theorem Tab.ent_of {t : Tab} (hn : (t.ents.map (·.path)).Nodup) {e : Ent} (he : e ∈ t.ents) : t.ent e.path = some e := by
  unfold Tab.ent
  generalize t.ents = es at *
  induction es with
  | nil => cases he
  | cons a r ih =>
    rw [List.map_cons, List.nodup_cons] at hn
    rw [List.find?_cons]
    by_cases h : a.path == e.path
    · rw [h]
      rcases List.mem_cons.1 he with rfl | he
      · rfl
      · exact absurd (List.mem_map.2 ⟨e, he, by simpa using Eq.symm (beq_iff_eq.1 h)⟩) hn.1
    · rw [Bool.not_eq_true] at h
      rw [h]
      rcases List.mem_cons.1 he with rfl | he
      · simp at h
      · exact ih hn.2 he

theorem blk_inj {es : List Ent} (hn : (es.map (·.blk)).Nodup) {a b : Ent} (ha : a ∈ es) (hb : b ∈ es) (h : a.blk = b.blk) : a = b := by
  induction es with
  | nil => cases ha
  | cons u r ih =>
    rw [List.map_cons, List.nodup_cons] at hn
    rcases List.mem_cons.1 ha with rfl | ha'
    · rcases List.mem_cons.1 hb with rfl | hb'
      · rfl
      · exact absurd (List.mem_map.2 ⟨b, hb', h.symm⟩) hn.1
    · rcases List.mem_cons.1 hb with rfl | hb'
      · exact absurd (List.mem_map.2 ⟨a, ha', h⟩) hn.1
      · exact ih hn.2 ha' hb'

theorem turn_paths (es : List Ent) (l : List UInt8) (x : Option (Nat × Option T)) : (es.map fun e => if e.path == l then e.turned x else e).map (·.path) = es.map (·.path) := by
  rw [List.map_map]
  apply List.map_congr_left
  intro e _
  simp only [Function.comp_apply]
  split <;> rfl

theorem turn_blks (es : List Ent) (l : List UInt8) (x : Option (Nat × Option T)) : (es.map fun e => if e.path == l then e.turned x else e).map (·.blk) = es.map (·.blk) := by
  rw [List.map_map]
  apply List.map_congr_left
  intro e _
  simp only [Function.comp_apply]
  split <;> rfl

theorem Tab.ent_turn (t : Tab) (l k : List UInt8) (x : Option (Nat × Option T)) : (t.turn l x).ent k = if k = l then (t.ent l).map (·.turned x) else t.ent k := by
  unfold Tab.ent Tab.turn
  simp only
  induction t.ents with
  | nil => simp
  | cons a r ih =>
    rw [List.map_cons, List.find?_cons, List.find?_cons, List.find?_cons]
    by_cases ha : a.path = l
    · have h1 : (a.path == l) = true := by simpa using ha
      rw [h1]
      simp only [if_true]
      have h2 : (a.turned x).path = a.path := rfl
      rw [h2]
      by_cases hk : k = l
      · subst hk
        rw [h1]
        simp
      · rw [if_neg hk]
        have h3 : (a.path == k) = false := by
          rw [beq_eq_false_iff_ne]
          intro e
          exact hk (e.symm.trans ha)
        rw [h3, ih, if_neg hk]
    · have h1 : (a.path == l) = false := by simpa using ha
      rw [h1]
      simp only [Bool.false_eq_true, if_false]
      by_cases hk : k = l
      · subst hk
        rw [h1, ih]
      · cases h3 : (a.path == k) with
        | true => simp only [if_neg hk]
        | false => rw [ih]

theorem Tab.ent_add (t : Tab) (l : List UInt8) (b m : Nat) (hl : t.ent l = none) (k : List UInt8) : (t.add l b m).ent k = if k = l then some ⟨l, b, none, 0⟩ else t.ent k := by
  unfold Tab.ent Tab.add at *
  simp only
  rw [List.find?_append]
  by_cases hk : k = l
  · subst hk
    rw [hl, if_pos rfl]
    simp
  · rw [if_neg hk]
    have h3 : (l == k) = false := by
      rw [beq_eq_false_iff_ne]
      exact fun e => hk e.symm
    simp [h3]

theorem countP_turn (es : List Ent) (hn : (es.map (·.path)).Nodup) (e : Ent) (he : e ∈ es) (x : Option (Nat × Option T)) :
    (es.map fun a => if a.path == e.path then a.turned x else a).countP (fun a => a.txt.isSome) + (if e.txt.isSome then 1 else 0) = es.countP (fun a => a.txt.isSome) + (if x.isSome then 1 else 0) := by
  induction es with
  | nil => cases he
  | cons a r ih =>
    rw [List.map_cons, List.nodup_cons] at hn
    rw [List.map_cons, List.countP_cons, List.countP_cons]
    by_cases hp : a.path = e.path
    · have hh : (a.path == e.path) = true := by simpa using hp
      rw [hh]
      simp only [if_true]
      have hr : (r.map fun a => if a.path == e.path then a.turned x else a) = r := by
        conv => rhs; rw [← List.map_id r]
        apply List.map_congr_left
        intro u hu
        have : (u.path == e.path) = false := by
          rw [beq_eq_false_iff_ne]
          intro h
          exact hn.1 (List.mem_map.2 ⟨u, hu, h.trans hp.symm⟩)
        rw [this]
        rfl
      rw [hr]
      have hae : a = e := by
        rcases List.mem_cons.1 he with h | h
        · exact h.symm
        · exact absurd (List.mem_map.2 ⟨e, h, hp.symm⟩) hn.1
      subst hae
      have : (a.turned x).txt = x := rfl
      rw [this]
      omega
    · have hh : (a.path == e.path) = false := by simpa using hp
      rw [hh]
      simp only [Bool.false_eq_true, if_false]
      rcases List.mem_cons.1 he with h | h
      · exact absurd (by rw [h]) hp
      · have := ih hn.2 h
        omega

theorem count_turn {t : Tab} (hn : (t.ents.map (·.path)).Nodup) {l : List UInt8} {e : Ent} (h : t.ent l = some e) (x : Option (Nat × Option T)) :
    (t.turn l x).count + (if e.txt.isSome then 1 else 0) = t.count + (if x.isSome then 1 else 0) := by
  obtain ⟨h1, h2⟩ := Tab.ent_path h
  subst h1
  exact countP_turn t.ents hn e h2 x

theorem count_add (t : Tab) (l : List UInt8) (b m : Nat) : (t.add l b m).count = t.count := by
  unfold Tab.count Tab.add
  simp

theorem Tab.count_le (t : Tab) : t.count ≤ t.ents.length := List.countP_le_length

/-- What a step has done to one path, as it is seen. -/
structure Did (t t' : Tab) (l : List UInt8) (x : Option (Nat × Option T)) : Prop where
  dirs : t'.dirs = t.dirs
  file : ∀ k, t'.file k = if k = l then x else t.file k
  ver : ∀ k, t'.ver k = if k = l then t.ver k + 1 else t.ver k
  len : t'.ents.length ≤ t.ents.length + 1
  cnt : t'.count + (if (t.file l).isSome then 1 else 0) = t.count + (if x.isSome then 1 else 0)

theorem did_turn {t : Tab} (hn : (t.ents.map (·.path)).Nodup) {l : List UInt8} {e : Ent} (h : t.ent l = some e) (x : Option (Nat × Option T)) : Did t (t.turn l x) l x := by
  refine ⟨rfl, fun k => ?_, fun k => ?_, by simp [Tab.turn], by
    have h1 := count_turn hn h x
    have h2 : t.file l = e.txt := by unfold Tab.file; rw [h]; rfl
    rw [h2]
    exact h1⟩
  · unfold Tab.file
    rw [Tab.ent_turn]
    by_cases hk : k = l
    · rw [if_pos hk, if_pos hk, h]
      rfl
    · rw [if_neg hk, if_neg hk]
  · unfold Tab.ver
    rw [Tab.ent_turn]
    by_cases hk : k = l
    · subst hk
      rw [if_pos rfl, if_pos rfl, h]
      rfl
    · rw [if_neg hk, if_neg hk]

theorem did_add {t : Tab} (hn : (t.ents.map (·.path)).Nodup) {l : List UInt8} (h : t.ent l = none) (b m : Nat) (x : Option (Nat × Option T)) : Did t ((t.add l b m).turn l x) l x := by
  have h1 : (t.add l b m).ent l = some ⟨l, b, none, 0⟩ := by rw [Tab.ent_add t l b m h, if_pos rfl]
  have hn2 : ((t.add l b m).ents.map (·.path)).Nodup := by
    simp only [Tab.add, List.map_append, List.map_cons, List.map_nil]
    rw [List.nodup_append]
    refine ⟨hn, by simp, fun a ha b' hb' => ?_⟩
    simp only [List.mem_cons, List.not_mem_nil, or_false] at hb'
    subst hb'
    intro e
    subst e
    exact find_none_paths.1 h ha
  have d := did_turn hn2 h1 x
  refine ⟨d.dirs, fun k => ?_, fun k => ?_, by simp [Tab.turn, Tab.add], by
    have h2 := d.cnt
    have h3 : (t.add l b m).file l = none := by unfold Tab.file; rw [h1]; rfl
    have h4 : t.file l = none := by unfold Tab.file; rw [h]; rfl
    rw [h3, count_add] at h2
    rw [h4]
    exact h2⟩
  · rw [d.file]
    by_cases hk : k = l
    · rw [if_pos hk, if_pos hk]
    · rw [if_neg hk, if_neg hk]
      unfold Tab.file
      rw [Tab.ent_add t l b m h, if_neg hk]
  · rw [d.ver]
    by_cases hk : k = l
    · subst hk
      rw [if_pos rfl, if_pos rfl]
      unfold Tab.ver
      rw [h1, h]
    · rw [if_neg hk, if_neg hk]
      unfold Tab.ver
      rw [Tab.ent_add t l b m h, if_neg hk]

end Go.Proofs.YtfjdfdpelilelaaDoor
