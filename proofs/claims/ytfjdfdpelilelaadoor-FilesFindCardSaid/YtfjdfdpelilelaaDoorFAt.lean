/-
  at, change; the atomic counter.
-/
import Derived.Test.YtfjdfdpelilelaaDoorFt
import Derived.Laws.LoneSync
import Derived.RegionTactic
import Derived.ChangeAlike
namespace Go.Proofs.YtfjdfdpelilelaaDoor
open Go.RowKit

/-- The file that is there. -/
def atPtr (o : Option Ent) : Option Addr := o.bind fun e => if e.txt.isSome then some ⟨e.blk, 0, none⟩ else none

theorem at_any {B : Nat} {M : Mp} {w : World} {p : Nat} {t : Tab} {c : Nat} (h : FT B M w p t c) (s : ByteArray) (hs : s.size ≤ 1000000) :
    Calls Tryd.prog 27 #[.pointer (some ⟨p, 0, none⟩), .string s] w fun e w' => e = .returned (.pointer (atPtr (t.ent s.data.toList))) ∧ w = w' := by
  obtain ⟨c1, -, -, -⟩ := h.tblCells
  have hl := h.look s hs
  cases he : t.ent s.data.toList with
  | none =>
    rw [he] at hl
    simp only [entPtr, Option.map_none] at hl
    clear h he
    go_enter Tryd.func27, Tryd.ntmps27
    go_wp2
    go_ret
    exact ⟨rfl, rfl⟩
  | some e =>
    rw [he] at hl
    simp only [entPtr, Option.map_some] at hl
    obtain ⟨f0, -⟩ := h.fileCells he
    obtain ⟨path, blk, txt, n⟩ := e
    cases txt with
    | none =>
      simp only [txtPtr, Option.map_none] at f0 hl
      clear h he
      go_enter Tryd.func27, Tryd.ntmps27
      go_wp2
      go_ret
      exact ⟨rfl, rfl⟩
    | some x =>
      simp only [txtPtr, Option.map_some] at f0 hl
      clear h he
      go_enter Tryd.func27, Tryd.ntmps27
      go_wp2
      go_ret
      exact ⟨rfl, rfl⟩

theorem at_nil (s : ByteArray) (w : World) :
    Calls Tryd.prog 27 #[.pointer none, .string s] w fun e w' => e = .returned (.pointer none) ∧ w = w' := by
  go_enter Tryd.func27, Tryd.ntmps27
  go_wp2
  go_ret
  exact ⟨rfl, rfl⟩

theorem add_any (a : Addr) (ha : a.spot = none) (n : Nat) (hn : n ≤ 1000000) (w : World) (hc : w.cell? a = some (.int .i64 (n : Int))) (hz : w.frozen? a = false) :
    Calls Tryd.prog 52 #[.pointer (some a), .int .i64 1] w fun e w' => e = .returned (.int .i64 ((n + 1 : Nat) : Int)) ∧ w' = w.setCell a (.int .i64 ((n + 1 : Nat) : Int)) := by
  have hs : (Op.intArith .add .i64 (n : Int) 1).run Tryd.prog w = .ok (.int .i64 ((n + 1 : Nat) : Int)) w := by
    have e : ((n + 1 : Nat) : Int) = IntKind.i64.wrap ((n : Int) + 1) := by
      rw [IntWalk.i64_in _ (by omega)]
      omega
    rw [e]
    rfl
  have hadd := run_call_add (P := Tryd.prog) Tryd.func71 (by kernel_rfl) (by kernel_rfl) (by kernel_rfl) .i64 (by kernel_rfl) (y := 1) hc hz hs
  clear hs
  obtain ⟨b, o, sp⟩ := a
  simp only at ha
  subst ha
  go_enter Tryd.func52, Tryd.ntmps52
  go_wp2
  go_ret
  exact ⟨rfl, rfl⟩

theorem load_any (a : Addr) (ha : a.spot = none) (n : Nat) (w : World) (hc : w.cell? a = some (.int .i64 (n : Int))) :
    Calls Tryd.prog 41 #[.pointer (some a)] w fun e w' => e = .returned (.int .i64 (n : Int)) ∧ w = w' := by
  have hl := run_call_load (P := Tryd.prog) Tryd.func61 (by kernel_rfl) (by kernel_rfl) (by kernel_rfl) .i64 (by kernel_rfl) hc
  obtain ⟨b, o, sp⟩ := a
  simp only at ha
  subst ha
  go_enter Tryd.func41, Tryd.ntmps41
  go_wp2
  go_ret
  exact ⟨rfl, rfl⟩

/-- A path's text has become another one. -/
def Changed (e : Ent) (r : Option Addr) (w : World) (x : Ending) (w' : World) : Prop :=
  x = .returned (.tuple #[]) ∧ w'.heap[e.blk]? = some (.cells #[.pointer r, .int .i64 ((e.n + 1 : Nat) : Int)] 78 (0, 0)) ∧ One e.blk w w'

theorem heap_setCell_same {w : World} {b j : Nat} {cs : Array Value} {t : TypeId} {z : Nat × Nat} (h : w.heap[b]? = some (.cells cs t z)) (v : Value) : (w.setCell ⟨b, j, none⟩ v).heap[b]? = some (.cells (cs.setIfInBounds j v) t z) := by
  simp only [World.setCell, Array.getElem?_modify, h, Option.map_some]
  rfl

theorem change_any (e : Ent) (r : Option Addr) (w : World) (h : w.heap[e.blk]? = some (fileObj e)) (hn : e.n ≤ 1000000) :
    Calls Tryd.prog 30 #[.pointer (some ⟨e.blk, 0, none⟩), .pointer r] w (Changed e r w) := by
  unfold fileObj at h
  have c1 : (w.setCell ⟨e.blk, 0, none⟩ (.pointer r)).cell? ⟨e.blk, 1, none⟩ = some (.int .i64 (e.n : Int)) := by
    rw [World.cell?_setCell_other _ ⟨e.blk, 0, none⟩ ⟨e.blk, 1, none⟩ _ (by simp), Lib.cell_of_heap h]
    rfl
  have c0 : w.cell? ⟨e.blk, 0, none⟩ = some (.pointer (txtPtr e.txt)) := by rw [Lib.cell_of_heap h]; rfl
  have z0 : w.frozen? ⟨e.blk, 0, none⟩ = false := Lib.frozen_of_heap h _
  have z1 : (w.setCell ⟨e.blk, 0, none⟩ (.pointer r)).frozen? ⟨e.blk, 1, none⟩ = false := by
    rw [World.frozen?_setCell]
    exact Lib.frozen_of_heap h _
  have hfin : Changed e r w (.returned (.tuple #[])) ((w.setCell ⟨e.blk, 0, none⟩ (.pointer r)).setCell ⟨e.blk, 1, none⟩ (.int .i64 ((e.n + 1 : Nat) : Int))) := by
    refine ⟨rfl, ?_, (One.setCell w e.blk 0 _).trans (One.setCell _ e.blk 1 _)⟩
    rw [heap_setCell_same (heap_setCell_same h _) _]
    rfl
  have HF := Lib.hid hfin
  have HN := Lib.hid hn
  clear hfin h hn
  obtain ⟨path, blk, txt, n⟩ := e
  simp only at c0 c1 z0 z1 HF HN ⊢
  go_enter Tryd.func30, Tryd.ntmps30
  go_wp2_with (go_at_call 52; refine (add_any ⟨blk, 1, none⟩ rfl n HN.out _ c1 z1).mono ?_; rintro e w' ⟨rfl, rfl⟩)
  first | go_end0 | refine bodyPost_ret (results_none rfl _ _ _) rfl ?_
  exact HF.out


theorem One.on {b : Nat} {w w' : World} (ho : One b w w') {o0 : Obj} (h0 : w.heap[b]? = some o0) (Z : Obj → Prop) (hZ : ∀ o, Z o → o ≠ o0) : SameOn Z w w' := fun k o h hz => by
  refine (ho.block k fun e => ?_).trans h
  subst e
  rw [h0] at h
  cases h
  exact hZ _ hz rfl

theorem FT.turned {B : Nat} {M : Mp} {w w' : World} {p : Nat} {t : Tab} {c : Nat} (h : FT B M w p t c) {l : List UInt8} {e : Ent} (he : t.ent l = some e) (x : Option (Nat × Option T)) (hn : e.n < 1000000)
    (ho : One e.blk w w') (hw : w'.heap[e.blk]? = some (.cells #[.pointer (txtPtr x), .int .i64 ((e.n + 1 : Nat) : Int)] 78 (0, 0))) (hx : ∀ y, x = some y → RP M w (some ⟨y.1, 0, none⟩) y.2) : FT B M w' p (t.turn l x) c := by
  obtain ⟨hp, hm⟩ := Tab.ent_path he
  have hf := h.file e hm
  have hk : M e.blk = none := kind_no_node h.inv hf (kind_file e)
  have hstr := ho.on hf (KOf 9) fun o hz => kof_ne hz (kof_file e) (by decide)
  have hrope := ho.on hf (KOf 92) fun o hz => kof_ne hz (kof_file e) (by decide)
  have htbl := ho.on hf (KOf 59) fun o hz => kof_ne hz (kof_file e) (by decide)
  have hmap := ho.on hf KMap fun o hz => kmap_ne hz (kof_file e)
  obtain ⟨ds, h1, h2⟩ := h.tbl
  have hmem : ∀ a ∈ (t.turn l x).ents, (a = e.turned x) ∨ (a ∈ t.ents ∧ a.path ≠ l) := fun a ha => by
    simp only [Tab.turn, List.mem_map] at ha
    obtain ⟨u, hu, rfl⟩ := ha
    by_cases hul : u.path = l
    · have : u = e := by
        have := Tab.ent_of h.paths hu
        rw [hul, he] at this
        exact (Option.some.inj this).symm
      subst this
      left
      rw [if_pos (by simpa using hul)]
    · right
      rw [if_neg (by simpa using hul)]
      exact ⟨hu, hul⟩
  have hpaths : (t.turn l x).ents.map (·.path) = t.ents.map (·.path) := turn_paths _ _ _
  have hblks : (t.turn l x).ents.map (·.blk) = t.ents.map (·.blk) := turn_blks _ _ _
  have hlen : (t.turn l x).ents.length = t.ents.length := by simp [Tab.turn]
  refine ⟨ho.inv h.inv hk, ?_, ⟨ds, htbl _ _ h1 (kof_tbl _ _ _), h2.same hstr⟩, ?_, ?_, ?_, by rw [hpaths]; exact h.paths, by rw [hblks]; exact h.blks, ?_, ?_, ?_⟩
  · unfold mine
    rw [hblks]
    exact h.low
  · have hm1 := h.map.same hmap
    unfold MapAt at *
    have e1 : (t.turn l x).mb = t.mb := rfl
    rw [e1]
    have hdata : ∀ k, entData ((t.turn l x).ent k) = entData (t.ent k) := fun k => by
      rw [Tab.ent_turn]
      by_cases hkl : k = l
      · rw [if_pos hkl, hkl, he]
        rfl
      · rw [if_neg hkl]
    have hsome : ∀ k, ((t.turn l x).ent k).isSome = (t.ent k).isSome := fun k => by
      rw [Tab.ent_turn]
      by_cases hkl : k = l
      · rw [if_pos hkl, hkl, he]
        rfl
      · rw [if_neg hkl]
    cases hmb : t.mb with
    | none =>
      rw [hmb] at hm1
      simp only at hm1 ⊢
      simp [Tab.turn, hm1]
    | some mb =>
      rw [hmb] at hm1
      simp only at hm1 ⊢
      obtain ⟨D, a1, a2, a3⟩ := hm1
      rw [hlen]
      exact ⟨D, a1, fun k => by rw [hdata]; exact a2 k, fun k => by rw [hsome]; exact a3 k⟩
  · intro a ha
    rcases hmem a ha with rfl | ⟨hu, hul⟩
    · exact hw
    · refine (ho.block a.blk fun eb => ?_).trans (h.file a hu)
      have : a = e := blk_inj h.blks hu hm eb
      exact hul (this ▸ hp)
  · intro a ha y hy
    rcases hmem a ha with rfl | ⟨hu, hul⟩
    · exact (hx y hy).same h.inv (fun _ _ => rfl) hrope
    · exact (h.rope a hu y hy).same h.inv (fun _ _ => rfl) hrope
  · intro a ha
    rcases hmem a ha with rfl | ⟨hu, _⟩
    · exact h.short e hm
    · exact h.short a hu
  · rw [hlen]; exact h.few.1
  · intro a ha
    rcases hmem a ha with rfl | ⟨hu, _⟩
    · show e.n + 1 ≤ 1000000
      omega
    · exact h.few.2 a hu

/-- How many there are, written. -/
theorem FT.counted {B : Nat} {M : Mp} {w : World} {p : Nat} {t : Tab} {c : Nat} (h : FT B M w p t c) (c' : Nat) : FT B M (w.setCell ⟨p, 2, none⟩ (.int .i64 (c' : Int))) p t c' := by
  have ho := One.setCell w p 2 (.int .i64 (c' : Int))
  obtain ⟨ds, h1, h2⟩ := h.tbl
  have hk : M p = none := kind_no_node h.inv h1 (kind_tbl _ _ _)
  have hT := kof_tbl ds t.mb c
  have hrope := ho.on h1 (KOf 92) fun o hz => kof_ne hz hT (by decide)
  refine ⟨ho.inv h.inv hk, h.low, ⟨ds, ?_, h2.same (ho.on h1 _ fun o hz => kof_ne hz hT (by decide))⟩, h.map.same (ho.on h1 _ fun o hz => kmap_ne hz hT), fun e he => ?_, fun e he x hx => (h.rope e he x hx).same h.inv (fun _ _ => rfl) hrope, h.paths, h.blks, h.short, h.few⟩
  · unfold tblObj at h1
    rw [heap_setCell_same h1]
    rfl
  · exact (ho.on h1 (KOf 78) fun o hz => kof_ne hz hT (by decide)) _ _ (h.file e he) (kof_file e)

/-- The map, made with the first path. -/
theorem FT.mapped {B : Nat} {M : Mp} {w : World} {p : Nat} {t : Tab} {c : Nat} (h : FT B M w p t c) (hmb : t.mb = none) :
    FT B M ((w.alloc (.map #[] 0)).setCell ⟨p, 1, none⟩ (.map (some w.heap.size))) p { t with mb := some w.heap.size } c ∧ t.ents = [] := by
  have hes : t.ents = [] := by
    have := h.map
    unfold MapAt at this
    rw [hmb] at this
    exact this
  refine ⟨?_, hes⟩
  have ha := h.alloc (.map #[] 0)
  have hheap : (w.alloc (.map #[] 0)).heap[w.heap.size]? = some (.map #[] 0) := heap_alloc_new w _
  generalize hw1 : w.alloc (.map #[] 0) = w1 at ha hheap
  have hmade : w1.ownsMap Tryd.prog 9 fileElem w.heap.size 0 (.map []) := by rw [← hw1]; exact World.ownsMap_made w Tryd.prog 9 fileElem
  have ho := One.setCell w1 p 1 (.map (some w.heap.size))
  obtain ⟨ds, h1, h2⟩ := ha.tbl
  have hk : M p = none := kind_no_node ha.inv h1 (kind_tbl _ _ _)
  have hT := kof_tbl ds t.mb c
  have hnp : w.heap.size ≠ p := fun e => by
    rw [e, h1] at hheap
    simp [tblObj] at hheap
  refine ⟨ho.inv ha.inv hk, ?_, ⟨ds, ?_, h2.same (ho.on h1 _ fun o hz => kof_ne hz hT (by decide))⟩, ?_, fun e he => absurd (show e ∈ ([] : List Ent) from hes ▸ he) (by simp), fun e he => absurd (show e ∈ ([] : List Ent) from hes ▸ he) (by simp), h.paths, h.blks, h.short, h.few⟩
  · intro k hk
    simp only [mine, hes, List.map_nil, List.append_nil, Option.toList_some, List.mem_cons, List.not_mem_nil, or_false] at hk
    rcases hk with rfl | rfl
    · exact h.low k (by simp [mine])
    · exact h.inv.base
  · unfold tblObj at h1
    rw [heap_setCell_same h1]
    rfl
  · unfold MapAt
    simp only [hes]
    refine ⟨.map [], ?_, fun l => ?_, fun l => ?_⟩
    · exact hmade.kept (row := some p) ⟨rfl, rfl, rfl, by simp [World.setCell], fun i _ hi => ho.block i fun e => hi (by rw [e])⟩ (by simpa using hnp)
    · rfl
    · rfl

/-- A new path, of which nothing is known yet. -/
theorem FT.added {B : Nat} {M : Mp} {w w1 w2 : World} {p : Nat} {t : Tab} {c : Nat} (h : FT B M w p t c) {mb b n : Nat} {D : DataW Unit} (hmb : t.mb = some mb) (l : List UInt8) (hl : t.ent l = none) (hs : l.length ≤ 1000000) (hfew : t.ents.length < 1000000)
    (hb : Below w.heap.size w w1) (hnew : w.heap.size ≤ b) (hf : w1.heap[b]? = some (fileObj ⟨l, b, none, 0⟩)) (hown : w1.ownsMap Tryd.prog 9 fileElem mb n D)
    (hat : ∀ l, D.atKey (.string l) .nil = entData (t.ent l)) (hhas : ∀ l, Maps.has D (.string l) = (t.ent l).isSome) (hn : n = t.ents.length)
    (hput : w2.ownsMap Tryd.prog 9 fileElem mb (n + 1) (D.put (.string l) (.lit (.int .i64 (b : Int))))) (hg : w1.grownBy w2 (some mb)) : FT B M w2 p (t.add l b mb) c := by
  have h' := h.below hb
  have hsame : ∀ (Z : Obj → Prop), (∀ o, Z o → ¬ KMap o) → SameOn Z w1 w2 := fun Z hZ k o ho hz => by
    refine (hg.block k (lt_of_heap ho) fun e => ?_).trans ho
    simp only [Option.some.injEq] at e
    subst e
    obtain ⟨es, clock, hh, _⟩ := hown
    rw [hh] at ho
    cases ho
    exact hZ _ hz ⟨_, _, rfl⟩
  have hno : ∀ ty o, KOf ty o → ¬ KMap o := fun ty o ho hm => kmap_ne hm ho rfl
  have hi : Inv B [] M w2 := h'.inv.same hg.size fun k u hk => hg.block k (h'.inv.lt hk) fun e => by
    simp only [Option.some.injEq] at e
    subst e
    obtain ⟨es, clock, hh, _⟩ := hown
    rw [map_no_node h'.inv hh ⟨_, _, rfl⟩] at hk
    cases hk
  have hmap : Maps.IsMap D := hown.isMap
  have hkey : WideAt.IsKeyLit (.string l) := trivial
  obtain ⟨ds, h1, h2⟩ := h'.tbl
  have hmemb : ∀ a ∈ (t.add l b mb).ents, a ∈ t.ents ∨ a = ⟨l, b, none, 0⟩ := fun a ha => by simpa [Tab.add] using ha
  refine ⟨hi, ?_, ⟨ds, ?_, h2.same (hsame _ (hno _))⟩, ?_, fun a ha => ?_, fun a ha x hx => ?_, ?_, ?_, fun a ha => ?_, ?_, fun a ha => ?_⟩
  · intro k hk
    simp only [mine, Tab.add, List.map_append, List.map_cons, List.map_nil, Option.toList_some, List.mem_cons, List.mem_append, List.not_mem_nil, or_false] at hk
    have hlow := h.low
    simp only [mine, hmb, Option.toList_some, List.mem_cons, List.mem_append, List.not_mem_nil, or_false] at hlow
    rcases hk with hk | hk | hk | hk
    · exact hlow k (.inl hk)
    · exact hlow k (.inr (.inl hk))
    · exact hlow k (.inr (.inr hk))
    · subst hk; exact Nat.le_trans h.inv.base hnew
  · rw [hmb] at h1
    exact (hsame _ (hno _)) _ _ h1 (kof_tbl _ _ _)
  · unfold MapAt
    show ∃ D, w2.ownsMap Tryd.prog 9 fileElem mb (t.add l b mb).ents.length D ∧ _
    have e1 : (t.add l b mb).ents.length = n + 1 := by simp [Tab.add, hn]
    rw [e1]
    refine ⟨_, hput, fun k => ?_, fun k => ?_⟩
    · rw [Tab.ent_add t l b mb hl]
      by_cases hk : k = l
      · subst hk
        rw [if_pos rfl, Maps.atKey_put_same hmap hkey]
        rfl
      · rw [if_neg hk, Maps.atKey_put_other (by simpa using hk)]
        exact hat k
    · rw [Tab.ent_add t l b mb hl]
      by_cases hk : k = l
      · subst hk
        rw [if_pos rfl, Maps.has_put_same hmap hkey]
        rfl
      · rw [if_neg hk, Maps.has_put_other (by simpa using hk)]
        exact hhas k
  · rcases hmemb a ha with hu | rfl
    · exact (hsame _ (hno _)) _ _ (h'.file a hu) (kof_file a)
    · exact (hsame _ (hno _)) _ _ hf (kof_file _)
  · rcases hmemb a ha with hu | rfl
    · exact (h'.rope a hu x hx).same h'.inv (fun _ _ => rfl) (hsame _ (hno _))
    · cases hx
  · simp only [Tab.add, List.map_append, List.map_cons, List.map_nil]
    rw [List.nodup_append]
    refine ⟨h.paths, by simp, fun a ha b' hb' => ?_⟩
    simp only [List.mem_cons, List.not_mem_nil, or_false] at hb'
    subst hb'
    intro e
    subst e
    exact find_none_paths.1 hl ha
  · simp only [Tab.add, List.map_append, List.map_cons, List.map_nil]
    rw [List.nodup_append]
    refine ⟨h.blks, by simp, fun a ha b' hb' => ?_⟩
    simp only [List.mem_cons, List.not_mem_nil, or_false] at hb'
    subst hb'
    intro e
    subst e
    obtain ⟨u, hu, hub⟩ := List.mem_map.1 ha
    have := lt_of_heap (h.file u hu)
    rw [hub] at this
    omega
  · rcases hmemb a ha with hu | rfl
    · exact h.short a hu
    · exact hs
  · simp [Tab.add]; omega
  · rcases hmemb a ha with hu | rfl
    · exact h.few.2 a hu
    · exact Nat.zero_le _

end Go.Proofs.YtfjdfdpelilelaaDoor
