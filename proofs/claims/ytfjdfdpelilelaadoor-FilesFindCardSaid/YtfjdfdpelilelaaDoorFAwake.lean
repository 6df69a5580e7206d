/-
  awake, of the laws of files.
-/
import Derived.Test.YtfjdfdpelilelaaDoorFCreate
import Derived.Test.YtfjdfdpelilelaaDoorFFind
namespace Go.Proofs.YtfjdfdpelilelaaDoor
open Go.RowKit

/-- A path has a text now. -/
def LMade (W : World) (p : Nat) (t : Tab) (c : Nat) (l : List UInt8) (P : Option T → Prop) (e : Ending) (w' : World) : Prop :=
  e = .returned (.int .i64 0) ∧ ∃ M' t' b o, P o ∧ Did t t' l (some (b, o)) ∧ LS W p t' c M' w'

theorem LS.edit {W : World} {p : Nat} {t : Tab} {c c' : Nat} {M : Mp} {w : World} (h : LS W p t c M w) {l : List UInt8} {P : Option T → Prop} {e : Ending} {w' : World} (q : EditPost W.heap.size M w p t c' l P e w') : LMade W p t c' l P e w' := by
  obtain ⟨he, M', t', x, ⟨b, o, rfl, ho⟩, hd, hf, hk⟩ := q
  exact ⟨he, M', t', b, o, ho, hd, h.next hf hk⟩

theorem LS.create {W : World} {p : Nat} {t : Tab} {c : Nat} {M : Mp} {w : World} (h : LS W p t c M w) (s m : ByteArray) (hs : s.size ≤ 1000) (hv : validB s.data.toList = true) (hf : t.file s.data.toList = none) (hn : t.ver s.data.toList < 1000000) (hc : c < 50) (hm : m.size ≤ 65536) (hfew : t.ents.length < 1000000) :
    Calls Tryd.prog 11 #[.pointer (some ⟨p, 0, none⟩), .string s, .string m] w (LMade W p t (c + 1) s.data.toList fun o => otext o = m.data.toList) :=
  (create_ok h.ft s m hs hv hf hn hc hm hfew).mono fun _ _ q => h.edit q

theorem Did.other {t t' : Tab} {l k : List UInt8} {x : Option (Nat × Option T)} (h : Did t t' l x) (hk : k ≠ l) : t'.file k = t.file k ∧ t'.ver k = t.ver k :=
  ⟨by rw [h.file, if_neg hk], by rw [h.ver, if_neg hk]⟩
theorem Did.self {t t' : Tab} {l : List UInt8} {x : Option (Nat × Option T)} (h : Did t t' l x) : t'.file l = x ∧ t'.ver l = t.ver l + 1 :=
  ⟨by rw [h.file, if_pos rfl], by rw [h.ver, if_pos rfl]⟩

def incL : List UInt8 := [105, 110, 99]
def tab0 (xs : List (List UInt8)) : Tab := ⟨xs, none, []⟩

theorem nw1 (w : World) : Calls Tryd.prog 10 #[.slice (some ⟨w.heap.size, 0, none⟩) 1 1] (w.alloc (.cells #[.string ⟨#[105, 110, 99]⟩] 9)) fun e w' =>
    ∃ p, e = .returned (.tuple #[.pointer (some ⟨p, 0, none⟩), .int .i64 0]) ∧ LS w p (tab0 [incL]) 0 (fun _ => none) w' := by
  have b0 : Below w.heap.size w (w.alloc (.cells #[.string ⟨#[105, 110, 99]⟩] 9)) := (Below.refl _ _).alloc (Nat.le_refl _) _
  have hS : StrsAt (some ⟨w.heap.size, 0, none⟩) [incL] (w.alloc (.cells #[.string ⟨#[105, 110, 99]⟩] 9)) := by
    intro i x hx
    match i, hx with
    | 0, hx =>
      simp at hx
      subst hx
      exact ⟨_, rfl, by simp, by simp [Addr.add]; rfl⟩
  refine (newDirs_any (cap := 1) [incL] _ hS (by decide) (by decide)).mono fun e w' hp => ?_
  rcases hp with ⟨-, v, he, hst⟩ | ⟨hn, -⟩
  · exact ⟨_, he, LS.made b0 (by simp) hst.tbl hst.own hst.below⟩
  · exact absurd hn (by decide)

theorem nw2 (w : World) : Calls Tryd.prog 10 #[.slice (some ⟨w.heap.size, 0, none⟩) 1 1] (w.alloc (.cells #[.string ⟨#[46, 46, 47, 120]⟩] 9)) fun e w' =>
    e = .returned (.tuple #[.pointer none, .int .i64 1]) ∧ Below w.heap.size w w' := by
  have b0 : Below w.heap.size w (w.alloc (.cells #[.string ⟨#[46, 46, 47, 120]⟩] 9)) := (Below.refl _ _).alloc (Nat.le_refl _) _
  have hS : StrsAt (some ⟨w.heap.size, 0, none⟩) [[46, 46, 47, 120]] (w.alloc (.cells #[.string ⟨#[46, 46, 47, 120]⟩] 9)) := by
    intro i x hx
    match i, hx with
    | 0, hx =>
      simp at hx
      subst hx
      exact ⟨_, rfl, by simp, by simp [Addr.add]⟩
  refine (newDirs_any (cap := 1) [[46, 46, 47, 120]] _ hS (by decide) (by decide)).mono fun e w' hp => ?_
  rcases hp with ⟨hn, -⟩ | ⟨-, he, hb⟩
  · exact absurd hn (by decide)
  · exact ⟨he, b0.trans (hb.mono (by simp))⟩

set_option maxHeartbeats 3200000 in
set_option maxRecDepth 100000 in
theorem fAwake_any (w : World) : Calls Tryd.prog 9 #[] w fun e w' => e = .returned (.bool true) ∧ Below w.heap.size w w' := by
  have hnot := not_run
  go_enter Tryd.func9, Tryd.ntmps9
  go_wp2_with fail
  refine (nw1 w).mono ?_
  rintro e w1 ⟨p, rfl, l1⟩
  have L1 := Lib.hid l1
  clear l1
  go_wp2_with fail
  refine (nw2 w1).mono ?_
  rintro e w2 ⟨rfl, b2⟩
  have L2 := Lib.hid (L1.out.below b2)
  clear b2
  go_wp2_with fail
  refine (L2.out.create ⟨#[97, 47, 120, 46, 99]⟩ ⟨#[120]⟩ (by decide) (by decide) rfl (by decide) (by decide) (by decide) (by decide)).mono ?_
  rintro e w3 ⟨rfl, M3, t3, b3, o3, -, d3, l3⟩
  have L3 := Lib.hid l3
  have D3 := Lib.hid d3
  clear l3 d3
  have e31 := Lib.hid (D3.out.other (k := [97, 47, 121, 46, 104]) (by decide))
  have e32 := Lib.hid (D3.out.other (k := [105, 110, 99, 47, 122, 46, 104]) (by decide))
  go_wp2_with fail
  refine (L3.out.create ⟨#[97, 47, 121, 46, 104]⟩ ⟨#[]⟩ (by decide) (by decide) (by rw [e31.out.1]; rfl) (by rw [e31.out.2]; decide) (by decide) (by decide) (by have := D3.out.len; simp [tab0] at this; omega)).mono ?_
  rintro e w4 ⟨rfl, M4, t4, b4, o4, -, d4, l4⟩
  have L4 := Lib.hid l4
  have D4 := Lib.hid d4
  clear l4 d4
  have e42 := Lib.hid (D4.out.other (k := [105, 110, 99, 47, 122, 46, 104]) (by decide))
  go_wp2_with fail
  refine (L4.out.create ⟨#[105, 110, 99, 47, 122, 46, 104]⟩ ⟨#[]⟩ (by decide) (by decide) (by rw [e42.out.1, e32.out.1]; rfl) (by rw [e42.out.2, e32.out.2]; decide) (by decide) (by decide) (by have := D3.out.len; have := D4.out.len; simp [tab0] at *; omega)).mono ?_
  rintro e w5 ⟨rfl, M5, t5, b5, o5, -, d5, l5⟩
  have L5 := Lib.hid l5
  have D5 := Lib.hid d5
  clear l5 d5
  have hf1 : t5.file [97, 47, 120, 46, 99] = some (b3, o3) ∧ t5.ver [97, 47, 120, 46, 99] = 1 := by
    have h1 := D5.out.other (k := [97, 47, 120, 46, 99]) (by decide)
    have h2 := D4.out.other (k := [97, 47, 120, 46, 99]) (by decide)
    have h3 := D3.out.self
    exact ⟨h1.1.trans (h2.1.trans h3.1), h1.2.trans (h2.2.trans h3.2)⟩
  have hf2 : t5.file [97, 47, 121, 46, 104] = some (b4, o4) := (D5.out.other (k := [97, 47, 121, 46, 104]) (by decide)).1.trans D4.out.self.1
  have hf3 : t5.file [98] = none := ((D5.out.other (k := [98]) (by decide)).1.trans ((D4.out.other (k := [98]) (by decide)).1.trans (D3.out.other (k := [98]) (by decide)).1)).trans rfl
  have hf4 : t5.file [105, 110, 99, 47, 121, 46, 104] = none := ((D5.out.other (k := [105, 110, 99, 47, 121, 46, 104]) (by decide)).1.trans ((D4.out.other (k := [105, 110, 99, 47, 121, 46, 104]) (by decide)).1.trans (D3.out.other (k := [105, 110, 99, 47, 121, 46, 104]) (by decide)).1)).trans rfl
  have hdirs : t5.dirs = [incL] := D5.out.dirs.trans (D4.out.dirs.trans D3.out.dirs)
  have F1 := Lib.hid hf1
  have F2 := Lib.hid hf2
  have F3 := Lib.hid hf3
  have F4 := Lib.hid hf4
  have HD := Lib.hid hdirs
  clear hf1 hf2 hf3 hf4 hdirs
  go_wp2_with fail
  refine (create_there L5.out.ft ⟨#[97, 47, 120, 46, 99]⟩ ⟨#[]⟩ (by decide) (by decide) F1.out.1).mono ?_
  rintro e w6 ⟨rfl, b6⟩
  have L6 := Lib.hid (L5.out.below b6)
  clear b6
  go_wp2_with fail
  refine (remove_none L6.out.ft ⟨#[98]⟩ (by decide) F3.out).mono ?_
  rintro e w' ⟨rfl, rfl⟩
  have hq1 : findT t5 [97, 47, 120, 46, 99] [121, 46, 104] true = some [97, 47, 121, 46, 104] := findT_hit (by
    unfold withinT
    rw [show dirL [97, 47, 120, 46, 99] = [97] from by decide, show joinPath [97] [121, 46, 104] = some [97, 47, 121, 46, 104] from by decide]
    simp only [F2.out]
    rfl)
  have hq2 : findT t5 [97, 47, 120, 46, 99] [121, 46, 104] false = none := by
    rw [findT_false, HD.out]
    unfold withinT
    simp only [List.findSome?_cons, List.findSome?_nil]
    rw [show joinPath incL [121, 46, 104] = some [105, 110, 99, 47, 121, 46, 104] from by decide]
    simp only [F4.out]
    rfl
  have hds : ∀ d ∈ t5.dirs, d.length ≤ 400 := by rw [HD.out]; decide
  have hdl : t5.dirs.length ≤ 1000000 := by rw [HD.out]; decide
  have k1 := find_any L6.out.ft ⟨#[97, 47, 120, 46, 99]⟩ ⟨#[121, 46, 104]⟩ true (by decide) (by decide) hds hdl
  rw [show (⟨#[97, 47, 120, 46, 99]⟩ : ByteArray).data.toList = [97, 47, 120, 46, 99] from rfl, show (⟨#[121, 46, 104]⟩ : ByteArray).data.toList = [121, 46, 104] from rfl, hq1] at k1
  have K2 := Lib.hid (fun X (l : LS w p t5 3 M5 X) => find_any l.ft ⟨#[97, 47, 120, 46, 99]⟩ ⟨#[121, 46, 104]⟩ false (by decide) (by decide) hds hdl)
  rw [show (⟨#[97, 47, 120, 46, 99]⟩ : ByteArray).data.toList = [97, 47, 120, 46, 99] from rfl, show (⟨#[121, 46, 104]⟩ : ByteArray).data.toList = [121, 46, 104] from rfl, hq2] at K2
  have K1 := Lib.hid k1
  clear k1 hq1 hq2 hds hdl
  go_wp2_with fail
  refine K1.out.mono ?_
  rintro e w7 ⟨rfl, b7⟩
  rw [show optS (some [97, 47, 121, 46, 104]) = ⟨#[97, 47, 121, 46, 104]⟩ from rfl, show (some [(97 : UInt8), 47, 121, 46, 104]).isSome = true from rfl]
  have L7 := Lib.hid (L6.out.below b7)
  clear b7
  go_wp2_with fail
  refine (K2.out _ L7.out).mono ?_
  rintro e w8 ⟨rfl, b8⟩
  rw [show optS none = ⟨#[]⟩ from rfl, show (none : Option (List UInt8)).isSome = false from rfl]
  have L8 := Lib.hid (L7.out.below b8)
  clear b8
  have kv := version_any L8.out.ft ⟨#[97, 47, 120, 46, 99]⟩ (by decide)
  rw [show (⟨#[97, 47, 120, 46, 99]⟩ : ByteArray).data.toList = [97, 47, 120, 46, 99] from rfl, F1.out.2] at kv
  have KV := Lib.hid kv
  clear kv
  have heq : ((⟨#[97, 47, 121, 46, 104]⟩ : ByteArray).toList == (⟨#[97, 47, 121, 46, 104]⟩ : ByteArray).toList) = true := by simp
  go_wp2_with fail
  refine KV.out.mono ?_
  rintro e w' ⟨rfl, rfl⟩
  rw [show ((1 : Nat) : Int) = 1 from rfl]
  go_wp2_with fail
  refine (create_nil _ _ _).mono ?_
  rintro e w' ⟨rfl, rfl⟩
  go_wp2_with fail
  refine (version_nil _ _).mono ?_
  rintro e w' ⟨rfl, rfl⟩
  go_wp2_with fail
  go_ret
  exact ⟨rfl, L8.out.ended⟩

end Go.Proofs.YtfjdfdpelilelaaDoor
