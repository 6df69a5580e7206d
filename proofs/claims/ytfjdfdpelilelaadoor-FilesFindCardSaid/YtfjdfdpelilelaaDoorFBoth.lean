/-
  Both tables side by side: the project's and the document's.
-/
import Derived.Test.YtfjdfdpelilelaaDoorRfind
import Derived.Test.YtfjdfdpelilelaaDoorFAwake
import Derived.Test.YtfjdfdpelilelaaDoorFShort
import Derived.Test.YtfjdfdpelilelaaDoorFOrder
namespace Go.Proofs.YtfjdfdpelilelaaDoor
open Go.RowKit

theorem FT.kof_kept {B : Nat} {M M' : Mp} {w w' : World} {p : Nat} {t : Tab} {c : Nat} {ty : TypeId} (h : FT B M w p t c) (k : Ks (mine p t) M w M' w') (h1 : ty ≠ 150) (h2 : ty ≠ 59) (h3 : ty ≠ 78) : SameOn (KOf ty) w w' := fun b o ho hz => by
  refine (k.block b (lt_of_heap ho) (kof_no_node h.inv ho hz h1) fun hb => ?_).trans ho
  simp only [mine, List.mem_cons, List.mem_append, Option.mem_toList, List.mem_map] at hb
  rcases hb with hb | hb | ⟨e, he', hb⟩
  · subst hb
    obtain ⟨ds, ht, _⟩ := h.tbl
    rw [ho] at ht
    cases ht
    exact kof_ne hz (kof_tbl ds t.mb c) h2 rfl
  · have hm := h.map
    unfold MapAt at hm
    rw [hb] at hm
    simp only at hm
    obtain ⟨D, ⟨es, clock, hh, _⟩, _⟩ := hm
    rw [ho] at hh
    cases hh
    exact kmap_ne ⟨es, clock, rfl⟩ hz rfl
  · have := h.file e he'
    rw [hb, ho] at this
    cases this
    exact kof_ne hz (kof_file e) h3 rfl

theorem row_same {B : Nat} {w w' : World} {e : TypeId} {size n : Nat} {v : Value} {xs : List Value} (h : w.ownsRow B e size v n xs) (hb : SameOn (KOf e) w w') : w'.ownsRow B e size v n xs := by
  obtain ⟨h1, h2 | ⟨g, cap, cur, e, hg, hh, hr⟩⟩ := h
  · exact ⟨h1, .inl h2⟩
  · exact ⟨h1, .inr ⟨g, cap, cur, e, hg, hb g _ hh ⟨_, rfl⟩, hr⟩⟩

theorem RT.kept {B : Nat} {w w' : World} {m : Nat} {dv lv nv tv : Value} {fs : FL} {ns : List (List UInt8)} {ts : List Int} (r : RT B w m dv lv nv tv fs ns ts) {M M' : Mp} {p : Nat} {t : Tab} {c : Nat} (h : FT B M w p t c) (k : Ks (mine p t) M w M' w') : RT B w' m dv lv nv tv fs ns ts :=
  ⟨r.low, Nat.le_trans r.base k.size, h.kof_kept k (by decide) (by decide) (by decide) m _ r.tbl ⟨_, rfl⟩, row_same r.files (h.kof_kept k (by decide) (by decide) (by decide)),
    row_same r.names (h.kof_kept k (by decide) (by decide) (by decide)), row_same r.times (h.kof_kept k (by decide) (by decide) (by decide)), r.few⟩

theorem LS.grown {W : World} {p : Nat} {t : Tab} {c : Nat} {M : Mp} {w w' : World} {m : Nat} {dv lv nv tv : Value} (h : LS W p t c M w) (hm : w.heap[m]? = some (rtObj dv lv nv tv)) (hW : W.heap.size ≤ m) (g : w.grownBy w' (some m)) : LS W p t c M w' := by
  have hkm : KOf 34 (rtObj dv lv nv tv) := ⟨_, rfl⟩
  have hM : M m = none := kof_no_node h.ft.inv hm hkm (by decide)
  have hi : Inv W.heap.size [] M w' := h.ft.inv.same g.size fun b u hb => g.block b (h.ft.inv.lt hb) fun e => by
    simp only [Option.some.injEq] at e
    rw [e, hM] at hb
    cases hb
  have hs : Same w w' := fun b o ho hk => (g.block b (lt_of_heap ho) fun e => by
    simp only [Option.some.injEq] at e
    subst e
    rw [hm] at ho
    cases ho
    rcases hk with hk | hk | hk | hk | hk
    · exact kmap_ne hk hkm rfl
    all_goals exact kof_ne hk hkm (by decide) rfl).trans ho
  refine ⟨h.ft.keep hi (fun _ _ => rfl) hs, h.ks.trans (S' := [m]) ⟨g.os, g.tape, g.output, g.size, fun _ _ => rfl, fun b hb _ hn => g.block b hb fun e => ?_⟩ fun j hj hlt => ?_⟩
  · simp only [Option.some.injEq] at e
    exact hn (by rw [e]; exact List.mem_cons_self ..)
  · rw [List.mem_singleton] at hj
    omega

/-- Both, at one time. -/
structure Two (W : World) (p m : Nat) (dv : Value) (t : Tab) (c : Nat) (M : Mp) (lv nv tv : Value) (fs : FL) (ns : List (List UInt8)) (ts : List Int) (w : World) : Prop where
  ls : LS W p t c M w
  rt : RT W.heap.size w m dv lv nv tv fs ns ts

theorem Two.below {W : World} {p m : Nat} {dv : Value} {t : Tab} {c : Nat} {M : Mp} {lv nv tv : Value} {fs : FL} {ns : List (List UInt8)} {ts : List Int} {w w' : World} (h : Two W p m dv t c M lv nv tv fs ns ts w) (b : Below w.heap.size w w') : Two W p m dv t c M lv nv tv fs ns ts w' := ⟨h.ls.below b, h.rt.below b⟩

def Fin (W : World) (p m : Nat) (dv : Value) (xs : List (List UInt8)) (k : Nat) (w : World) : Prop :=
  ∃ t c M lv nv tv fs ns ts, Two W p m dv t c M lv nv tv fs ns ts w ∧ Agree t c fs ns ts k ∧ t.dirs = xs

theorem Fin.ended {W : World} {p m : Nat} {dv : Value} {xs : List (List UInt8)} {k : Nat} {w : World} (h : Fin W p m dv xs k w) : Below W.heap.size W w := by
  obtain ⟨t, c, M, lv, nv, tv, fs, ns, ts, h2, -⟩ := h
  exact h2.ls.ended

theorem Fin.below {W : World} {p m : Nat} {dv : Value} {xs : List (List UInt8)} {k : Nat} {w w' : World} (h : Fin W p m dv xs k w) (b : Below w.heap.size w w') : Fin W p m dv xs k w' := by
  obtain ⟨t, c, M, lv, nv, tv, fs, ns, ts, h2, h3⟩ := h
  exact ⟨t, c, M, lv, nv, tv, fs, ns, ts, h2.below b, h3⟩

theorem Fin.drew {W : World} {p m : Nat} {dv : Value} {xs : List (List UInt8)} {k : Nat} {w : World} (h : Fin W p m dv xs k w) : Fin W p m dv xs k w.drew := h.below (Below.refl _ _).drew

/-- One name, made in both. -/
theorem both_create {W : World} {p m : Nat} {dv : Value} {xs : List (List UInt8)} {k : Nat} (hk : k < 50) (s : ByteArray) (hs : s.size ≤ 1000) {w0 : World} (h0 : Fin W p m dv xs k w0) :
    ∃ (r : Int) (St Mid : World → Prop), St w0 ∧ (∀ X, St X → St X.drew) ∧ (∀ X, Mid X → Mid X.drew) ∧ (∀ X, Mid X → Below W.heap.size W X) ∧
      (∀ X, St X → Calls Tryd.prog 11 #[.pointer (some ⟨p, 0, none⟩), .string s, .string ⟨#[]⟩] X fun e w' => e = .returned (.int .i64 r) ∧ Mid w') ∧
      (∀ X, Mid X → Calls Tryd.prog 12 #[.pointer (some ⟨m, 0, none⟩), .string s, .string ⟨#[]⟩] X fun e w' => e = .returned (.int .i64 r) ∧ Fin W p m dv xs (k + 1) w') := by
  obtain ⟨t, c, M, lv, nv, tv, fs, ns, ts, h2, ha, hd⟩ := h0
  cases hv : validB s.data.toList with
  | false =>
    refine ⟨1, Two W p m dv t c M lv nv tv fs ns ts, Two W p m dv t c M lv nv tv fs ns ts, h2, fun X h => h.below (Below.refl _ _).drew, fun X h => h.below (Below.refl _ _).drew, fun X h => h.ls.ended, fun X h => ?_, fun X h => ?_⟩
    · exact (create_arg p X s ⟨#[]⟩ hs hv).mono fun e w' ⟨he, hb⟩ => ⟨he, h.below hb⟩
    · exact (rCreate_arg h.rt s ⟨#[]⟩ hv).mono fun e w' ⟨he, hb⟩ => ⟨he, t, c, M, lv, nv, tv, fs, ns, ts, h.below hb, ha.more, hd⟩
  | true =>
    cases hf : t.file s.data.toList with
    | some x =>
      have hb : atB fs s.data.toList = true := by rw [ha.at, hf]; rfl
      refine ⟨3, Two W p m dv t c M lv nv tv fs ns ts, Two W p m dv t c M lv nv tv fs ns ts, h2, fun X h => h.below (Below.refl _ _).drew, fun X h => h.below (Below.refl _ _).drew, fun X h => h.ls.ended, fun X h => ?_, fun X h => ?_⟩
      · exact (create_there h.ls.ft s ⟨#[]⟩ hs hv hf).mono fun e w' ⟨he, hb⟩ => ⟨he, h.below hb⟩
      · exact (rCreate_there h.rt s ⟨#[]⟩ hv hb).mono fun e w' ⟨he, hb⟩ => ⟨he, t, c, M, lv, nv, tv, fs, ns, ts, h.below hb, ha.more, hd⟩
    | none =>
      have hb : atB fs s.data.toList = false := by rw [ha.at, hf]; rfl
      have hns : s.data.toList ∉ ns := fun h => by
        have := (atB_mem ha.rise _).2 (ha.sub _ h)
        rw [hb] at this
        cases this
      obtain ⟨l1, l2, l3, l4⟩ := ha.len
      refine ⟨0, Two W p m dv t c M lv nv tv fs ns ts, fun X => ∃ t' M' b o, Did t t' s.data.toList (some (b, o)) ∧ Two W p m dv t' (c + 1) M' lv nv tv fs ns ts X, h2, fun X h => h.below (Below.refl _ _).drew,
        fun X ⟨t', M', b, o, h1, h⟩ => ⟨t', M', b, o, h1, h.below (Below.refl _ _).drew⟩, fun X ⟨t', M', b, o, h1, h⟩ => h.ls.ended, fun X h => ?_, fun X hX => ?_⟩
      · refine (create_ok h.ls.ft s ⟨#[]⟩ hs hv hf (by have := ha.ver s.data.toList; omega) (by omega) (by decide) (by have := ha.few; omega)).mono fun e w' ⟨he, M', t', x, ⟨b', o', hx, _⟩, hdid, hft, hks⟩ => ?_
        subst hx
        exact ⟨he, t', M', b', o', hdid, h.ls.next hft hks, h.rt.kept h.ls.ft hks⟩
      · obtain ⟨t', M', b, o, h1, h⟩ := hX
        refine (rCreate_ok h.rt s hv hb hns (by omega) (by omega) (by omega)).mono fun e w' ⟨he, lv', nv', tv', hr, hg⟩ => ?_
        exact ⟨he, t', c + 1, M', lv', nv', tv', _, _, _, ⟨h.ls.grown h.rt.tbl h.rt.low hg, hr⟩, ha.put hf h1, h1.dirs.trans hd⟩

end Go.Proofs.YtfjdfdpelilelaaDoor
