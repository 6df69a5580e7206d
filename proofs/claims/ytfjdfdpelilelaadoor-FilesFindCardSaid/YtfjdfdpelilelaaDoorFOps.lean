/-
  Get, Version, Remove, edit, Insert, Delete.
-/
import Derived.Test.YtfjdfdpelilelaaDoorFKnown
import Derived.Test.YtfjdfdpelilelaaDoorReplace
namespace Go.Proofs.YtfjdfdpelilelaaDoor
open Go.RowKit

theorem Tab.file_some {t : Tab} {l : List UInt8} {x : Nat × Option T} (h : t.file l = some x) : ∃ e, t.ent l = some e ∧ e.txt = some x ∧ t.ver l = e.n := by
  unfold Tab.file at h
  cases he : t.ent l with
  | none => rw [he] at h; cases h
  | some e => rw [he] at h; exact ⟨e, rfl, h, by unfold Tab.ver; rw [he]⟩

theorem atPtr_file (t : Tab) (l : List UInt8) : t.file l = none → atPtr (t.ent l) = none := by
  unfold Tab.file atPtr
  cases t.ent l with
  | none => exact fun _ => rfl
  | some e =>
    intro h
    simp only [Option.bind_some] at h ⊢
    rw [h]
    rfl

theorem atPtr_some {t : Tab} {l : List UInt8} {e : Ent} {x : Nat × Option T} (he : t.ent l = some e) (hx : e.txt = some x) : atPtr (t.ent l) = some ⟨e.blk, 0, none⟩ := by
  rw [he]
  simp [atPtr, hx]

theorem get_any {B : Nat} {M : Mp} {w : World} {p : Nat} {t : Tab} {c : Nat} (h : FT B M w p t c) (s : ByteArray) (hs : s.size ≤ 1000000) :
    Calls Tryd.prog 21 #[.pointer (some ⟨p, 0, none⟩), .string s] w fun e w' => e = .returned (.tuple #[.pointer (txtPtr (t.file s.data.toList)), .bool (t.file s.data.toList).isSome]) ∧ w = w' := by
  have hA := at_any h s hs
  cases hf : t.file s.data.toList with
  | none =>
    rw [atPtr_file t _ hf] at hA
    have HA := Lib.hid hA
    clear hA hf h
    go_enter Tryd.func21, Tryd.ntmps21
    go_wp2_with (go_at_call 27; refine HA.out.mono ?_; rintro e w' ⟨rfl, rfl⟩)
    go_ret2
    exact ⟨rfl, rfl⟩
  | some x =>
    obtain ⟨e, he, hx, -⟩ := Tab.file_some hf
    rw [atPtr_some he hx] at hA
    obtain ⟨f0, -⟩ := h.fileCells he
    rw [hx] at f0
    have HA := Lib.hid hA
    clear hA hf h he hx
    go_enter Tryd.func21, Tryd.ntmps21
    go_wp2_with (go_at_call 27; refine HA.out.mono ?_; rintro e w' ⟨rfl, rfl⟩)
    go_ret2
    exact ⟨rfl, rfl⟩

theorem get_nil (s : ByteArray) (w : World) :
    Calls Tryd.prog 21 #[.pointer none, .string s] w fun e w' => e = .returned (.tuple #[.pointer none, .bool false]) ∧ w = w' := by
  have HA := Lib.hid (at_nil s w)
  go_enter Tryd.func21, Tryd.ntmps21
  go_wp2_with (go_at_call 27; refine HA.out.mono ?_; rintro e w' ⟨rfl, rfl⟩)
  go_ret2
  exact ⟨rfl, rfl⟩

theorem version_any {B : Nat} {M : Mp} {w : World} {p : Nat} {t : Tab} {c : Nat} (h : FT B M w p t c) (s : ByteArray) (hs : s.size ≤ 1000000) :
    Calls Tryd.prog 20 #[.pointer (some ⟨p, 0, none⟩), .string s] w fun e w' => e = .returned (.int .i64 (t.ver s.data.toList : Int)) ∧ w = w' := by
  obtain ⟨c1, -, -, -⟩ := h.tblCells
  have hl := h.look s hs
  cases he : t.ent s.data.toList with
  | none =>
    have hv : t.ver s.data.toList = 0 := by unfold Tab.ver; rw [he]
    rw [he] at hl
    rw [hv]
    simp only [entPtr, Option.map_none] at hl
    clear h he hv
    go_enter Tryd.func20, Tryd.ntmps20
    go_wp2
    go_ret
    exact ⟨rfl, rfl⟩
  | some e =>
    have hv : t.ver s.data.toList = e.n := by unfold Tab.ver; rw [he]
    rw [he] at hl
    rw [hv]
    simp only [entPtr, Option.map_some] at hl
    obtain ⟨-, f1⟩ := h.fileCells he
    clear h he hv
    have HF := Lib.hid f1
    go_enter Tryd.func20, Tryd.ntmps20
    go_wp2_with (go_at_call 41; refine (load_any ⟨e.blk, 1, none⟩ rfl e.n w HF.out).mono ?_; rintro x w' ⟨rfl, rfl⟩)
    go_ret
    exact ⟨rfl, rfl⟩

theorem version_nil (s : ByteArray) (w : World) :
    Calls Tryd.prog 20 #[.pointer none, .string s] w fun e w' => e = .returned (.int .i64 0) ∧ w = w' := by
  go_enter Tryd.func20, Tryd.ntmps20
  go_wp2
  go_ret
  exact ⟨rfl, rfl⟩

/-- One path has changed. -/
def TabPost (B : Nat) (M : Mp) (w : World) (p : Nat) (t : Tab) (c : Nat) (l : List UInt8) (P : Option (Nat × Option T) → Prop) (e : Ending) (w' : World) : Prop :=
  e = .returned (.int .i64 0) ∧ ∃ M' t' x, P x ∧ Did t t' l x ∧ FT B M' w' p t' c ∧ Ks (mine p t) M w M' w'

theorem turn_post {B : Nat} {M M1 : Mp} {w w1 w2 : World} {p : Nat} {t : Tab} {c : Nat} (h : FT B M w p t c) (s : St B M w M1 w1) {l : List UInt8} {e : Ent} (he : t.ent l = some e) (hn : e.n < 1000000) (x : Option (Nat × Option T))
    (hx : ∀ y, x = some y → RP M1 w1 (some ⟨y.1, 0, none⟩) y.2) {z : Ending} (hc : Changed e (txtPtr x) w1 z w2) :
    FT B M1 w2 p (t.turn l x) c ∧ Ks (mine p t) M w M1 w2 := by
  obtain ⟨-, hh, ho⟩ := hc
  have hf := (h.step s).turned he x hn ho hh hx
  refine ⟨hf, ((Ks.of_st (S := mine p t) s).trans (ho.ks (S := mine p t) ?_) fun _ hj _ => hj)⟩
  simp only [mine, List.mem_cons, List.mem_append, List.mem_map]
  exact .inr (.inr ⟨e, (Tab.ent_path he).2, rfl⟩)

theorem remove_none {B : Nat} {M : Mp} {w : World} {p : Nat} {t : Tab} {c : Nat} (h : FT B M w p t c) (s : ByteArray) (hs : s.size ≤ 1000000) (hf : t.file s.data.toList = none) :
    Calls Tryd.prog 19 #[.pointer (some ⟨p, 0, none⟩), .string s] w fun e w' => e = .returned (.int .i64 2) ∧ w = w' := by
  have hA := at_any h s hs
  rw [atPtr_file t _ hf] at hA
  have HA := Lib.hid hA
  clear hA hf h
  go_enter Tryd.func19, Tryd.ntmps19
  go_wp2_with (go_at_call 27; refine HA.out.mono ?_; rintro e w' ⟨rfl, rfl⟩)
  go_ret
  exact ⟨rfl, rfl⟩

set_option maxHeartbeats 400000 in
theorem remove_some {B : Nat} {M : Mp} {w : World} {p : Nat} {t : Tab} {c : Nat} (h : FT B M w p t (c + 1)) (s : ByteArray) (hs : s.size ≤ 1000000) {x : Nat × Option T} (hf : t.file s.data.toList = some x) (hv : t.ver s.data.toList < 1000000) (hc : c ≤ 1000000) :
    Calls Tryd.prog 19 #[.pointer (some ⟨p, 0, none⟩), .string s] w (TabPost B M w p t c s.data.toList (· = none)) := by
  have hA := at_any h s hs
  obtain ⟨e, he, hx, hn⟩ := Tab.file_some hf
  rw [hn] at hv
  rw [atPtr_some he hx] at hA
  have hC := change_any e none w (h.file e (h.ent_mem he)) (by omega)
  have hd := did_turn h.paths he none
  have HA := Lib.hid hA
  have HC := Lib.hid hC
  have HP := Lib.hid (fun z w2 (hc : Changed e (txtPtr none) w z w2) => turn_post h (St.refl h.inv) he hv none (fun _ h => by cases h) hc)
  have HD := Lib.hid hd
  clear hA hC hd hf h he hx hv
  go_enter Tryd.func19, Tryd.ntmps19
  go_wp2_with (first
    | (go_at_call 27; refine HA.out.mono ?_; rintro e w' ⟨rfl, rfl⟩)
    | (go_at_call 30; refine HC.out.mono ?_; rintro z w2 hch; have hz := hch.1; subst hz; obtain ⟨f2, k2⟩ := HP.out _ _ hch; clear hch; obtain ⟨-, t2, -, z2⟩ := f2.tblCells; have F2 := Lib.hid f2; have K2 := Lib.hid k2; clear f2 k2))
  have hfin : TabPost B M w p t c s.data.toList (· = none) (.returned (.int .i64 0)) (w2.setCell ⟨p, 2, none⟩ (.int .i64 (c : Int))) :=
    ⟨rfl, M, _, none, rfl, HD.out, F2.out.counted c, K2.out.trans ((One.setCell w2 p 2 _).ks (S := mine p t) (by simp [mine])) fun _ hj _ => hj⟩
  have HF := Lib.hid hfin
  clear hfin
  go_ret
  have e1 : ((c + 1 : Nat) : Int) - 1 = (c : Int) := by omega
  first | exact HF.out | (rw [← e1] at HF; exact HF.out) | (simp only [e1]; exact HF.out)

end Go.Proofs.YtfjdfdpelilelaaDoor
