/-
  within, Find: which file is meant.
-/
import Derived.Test.YtfjdfdpelilelaaDoorFNew
namespace Go.Proofs.YtfjdfdpelilelaaDoor
open Go.RowKit

/-- The path of a name in a directory, if it is one and there. -/
def withinT (t : Tab) (n d : List UInt8) : Option (List UInt8) := match joinPath d n with | none => none | some x => if (t.file x).isSome then some x else none

def findT (t : Tab) (f n : List UInt8) (q : Bool) : Option (List UInt8) := ((if q then [dirL f] else []) ++ t.dirs).findSome? (withinT t n)

def optS (r : Option (List UInt8)) : ByteArray := ⟨(r.getD []).toArray⟩

theorem cleanL_short {l x : List UInt8} (h : cleanL l = some x) : x.length ≤ 80 := by
  unfold cleanL at h
  split at h
  · cases h
  · split at h
    · rename_i out _ hv
      cases h
      unfold validB at hv
      simp only [Bool.and_eq_true, decide_eq_true_eq] at hv
      exact hv.1
    · cases h

theorem joinPath_short {d n x : List UInt8} (h : joinPath d n = some x) : x.length ≤ 80 := by
  unfold joinPath at h
  split at h
  · exact cleanL_short h
  · exact cleanL_short h

theorem within_any {B : Nat} {M : Mp} {w : World} {p : Nat} {t : Tab} {c : Nat} (h : FT B M w p t c) (d n : ByteArray) (hs : d.size + n.size ≤ 1000) :
    Calls Tryd.prog 33 #[.pointer (some ⟨p, 0, none⟩), .string d, .string n] w fun e w' =>
      e = .returned (.tuple #[.string (optS (withinT t n.data.toList d.data.toList)), .bool (withinT t n.data.toList d.data.toList).isSome]) ∧ Below w.heap.size w w' := by
  have hJ := pJoin_any d n w hs
  unfold withinT
  cases hj : joinPath d.data.toList n.data.toList with
  | none =>
    rw [hj] at hJ
    have HJ := Lib.hid hJ
    clear h hJ hj
    go_enter Tryd.func33, Tryd.ntmps33
    go_wp2_with (go_at_call 54; refine HJ.out.mono ?_; rintro e w1 ⟨rfl, b1⟩; have B1 := Lib.hid b1; clear b1)
    go_ret2
    exact ⟨rfl, B1.out⟩
  | some x =>
    rw [hj] at hJ
    have hx := joinPath_short hj
    have hsz : (⟨x.toArray⟩ : ByteArray).size ≤ 1000000 := by
      show x.toArray.size ≤ 1000000
      simp only [List.size_toArray]
      omega
    have HA := Lib.hid (fun w1 (b : Below w.heap.size w w1) => at_any (h.below b) ⟨x.toArray⟩ hsz)
    simp only at HA ⊢
    cases hf : t.file x with
    | none =>
      have HA2 := Lib.hid (fun w1 (b : Below w.heap.size w w1) => (show Calls Tryd.prog 27 #[.pointer (some ⟨p, 0, none⟩), .string ⟨x.toArray⟩] w1 fun e w' => e = .returned (.pointer none) ∧ w1 = w' from by
        have := HA.out w1 b
        rw [atPtr_file t _ hf] at this
        exact this))
      have HJ := Lib.hid hJ
      clear h hJ hj HA hf hsz hx
      go_enter Tryd.func33, Tryd.ntmps33
      go_wp2_with (first
        | (go_at_call 54; refine HJ.out.mono ?_; rintro e w1 ⟨rfl, b1⟩; have B1 := Lib.hid b1; clear b1)
        | (go_at_call 27; refine (HA2.out w1 B1.out).mono ?_; rintro e w' ⟨rfl, rfl⟩))
      go_ret2
      exact ⟨rfl, B1.out⟩
    | some y =>
      obtain ⟨u, hu, hy, -⟩ := Tab.file_some hf
      have HA2 := Lib.hid (fun w1 (b : Below w.heap.size w w1) => (show Calls Tryd.prog 27 #[.pointer (some ⟨p, 0, none⟩), .string ⟨x.toArray⟩] w1 fun e w' => e = .returned (.pointer (some ⟨u.blk, 0, none⟩)) ∧ w1 = w' from by
        have := HA.out w1 b
        rw [atPtr_some hu hy] at this
        exact this))
      have HJ := Lib.hid hJ
      clear h hJ hj HA hf hsz hx hu hy
      go_enter Tryd.func33, Tryd.ntmps33
      go_wp2_with (first
        | (go_at_call 54; refine HJ.out.mono ?_; rintro e w1 ⟨rfl, b1⟩; have B1 := Lib.hid b1; clear b1)
        | (go_at_call 27; refine (HA2.out w1 B1.out).mono ?_; rintro e w' ⟨rfl, rfl⟩))
      go_ret2
      exact ⟨rfl, B1.out⟩

def FindRel (w : World) (t : Tab) (n : List UInt8) (i : Value) (wr : World) : Prop :=
  ∃ k : Nat, i = .int .i64 (k : Int) ∧ k ≤ t.dirs.length ∧ Below w.heap.size w wr ∧ (t.dirs.take k).findSome? (withinT t n) = none

def FindPost (w : World) (r : Option (List UInt8)) (e : Ending) (w' : World) : Prop :=
  e = .returned (.tuple #[.string (optS r), .bool r.isSome]) ∧ Below w.heap.size w w'

theorem dirL_le (l : List UInt8) : (dirL l).length ≤ l.length := by
  unfold dirL
  have : ∀ n, (dirGo l n).length ≤ l.length := fun n => by
    induction n with
    | zero => simp [dirGo]
    | succ n ih =>
      unfold dirGo
      split
      · simp [List.length_take]; omega
      · exact ih
  exact this _

theorem find_take {α β : Type} (f : α → Option β) (l : List α) (k : Nat) (c : α) (hc : l[k]? = some c) : (l.take (k + 1)).findSome? f = ((l.take k).findSome? f).or (f c) := by
  rw [List.take_add_one, hc, List.findSome?_append]
  cases (l.take k).findSome? f <;> simp

theorem find_hit {α β : Type} (f : α → Option β) (l : List α) (k : Nat) (c : α) (y : β) (hc : l[k]? = some c) (hn : (l.take k).findSome? f = none) (hy : f c = some y) : l.findSome? f = some y := by
  have h := find_take f l k c hc
  rw [hn, hy] at h
  conv => lhs; rw [← List.take_append_drop (k + 1) l]
  rw [List.findSome?_append, h]
  rfl

theorem own_strsAt {B : Nat} {v : Value} {xs : List (List UInt8)} {w : World} (h : OwnStrs B v xs w) : ∃ a cap, v = .slice a xs.length cap ∧ StrsAt a xs w := by
  rcases Nat.eq_zero_or_pos xs.length with hz | hz
  · have : xs = [] := List.eq_nil_of_length_eq_zero hz
    subst this
    obtain ⟨a, cap, rfl⟩ := OwnStrs.nil h
    exact ⟨a, cap, rfl, fun i x hx => by simp at hx⟩
  · have hlt := World.ownsRow.lt h
    obtain ⟨g, cap, rfl, -, -, -, hcell⟩ := OwnStrs.form h hz
    refine ⟨_, cap, rfl, fun i x hx => ⟨_, rfl, (hlt g rfl).2, ?_⟩⟩
    rw [show (⟨g, 0, none⟩ : Addr).add i = ⟨g, i, none⟩ from by simp [Addr.add]; intro h; exact h.symm]
    exact hcell i x hx

theorem findT_false {t : Tab} {f n : List UInt8} : findT t f n false = t.dirs.findSome? (withinT t n) := rfl
theorem findT_true {t : Tab} {f n : List UInt8} (h : withinT t n (dirL f) = none) : findT t f n true = t.dirs.findSome? (withinT t n) := by
  unfold findT
  simp [h]
theorem findT_hit {t : Tab} {f n y : List UInt8} (h : withinT t n (dirL f) = some y) : findT t f n true = some y := by
  unfold findT
  simp [h]

set_option maxRecDepth 100000 in
set_option maxHeartbeats 1600000 in
theorem find_any {B : Nat} {M : Mp} {w : World} {p : Nat} {t : Tab} {c : Nat} (h : FT B M w p t c) (f n : ByteArray) (q : Bool) (hf : f.size ≤ 400) (hn : n.size ≤ 500) (hd : ∀ d ∈ t.dirs, d.length ≤ 400) (hdl : t.dirs.length ≤ 1000000) :
    Calls Tryd.prog 13 #[.pointer (some ⟨p, 0, none⟩), .string f, .string n, .bool q] w (FindPost w (findT t f.data.toList n.data.toList q)) := by
  obtain ⟨ds, htb, hown⟩ := h.tbl
  have c0 : w.cell? ⟨p, 0, none⟩ = some ds := by
    unfold tblObj at htb
    rw [Lib.cell_of_heap htb]
    rfl
  have hpl : p < w.heap.size := lt_of_heap htb
  have HD := Lib.hid hd
  have HW := Lib.hid (fun w1 (b : Below w.heap.size w w1) d (hd : d.size + n.size ≤ 1000) => within_any (h.below b) d n hd)
  have HDir := Lib.hid (fun w1 => pDir_any f w1 (by omega))
  have hdl2 := dirL_le f.data.toList
  obtain ⟨D, hD⟩ : ∃ D : ByteArray, (⟨(dirL f.data.toList).toArray⟩ : ByteArray) = D := ⟨_, rfl⟩
  have hDd : D.data.toList = dirL f.data.toList := by rw [← hD]
  rw [hD] at HDir
  have hDs : D.size + n.size ≤ 1000 := by
    have : D.size = (dirL f.data.toList).length := by rw [← hDd]; simp
    rw [psize] at hdl2
    omega
  have HDS := Lib.hid hDs
  obtain ⟨a0, cap, rfl, hS⟩ := own_strsAt hown
  have HS := Lib.hid hS
  have HC0 := Lib.hid (fun w1 (b : Below w.heap.size w w1) => (b.cell (p := ⟨p, 0, none⟩) hpl).trans c0)
  clear h htb hown hS hd hf hdl2 hDs hD
  cases q with
  | false =>
    clear HDir HDS hDd
    go_enter Tryd.func13, Tryd.ntmps13
    go_wp2
    go_loopw [34] (FindRel w t n.data.toList) (fun i _ => t.dirs.length - (intOf i).toNat)
    case atStart => exact ⟨0, rfl, Nat.zero_le _, Below.refl _ _, rfl⟩
    case round =>
      obtain ⟨k, rfl, hk, hbel, hnone⟩ := hrel
      have HB := Lib.hid hbel
      have HN := Lib.hid hnone
      clear hbel hnone
      by_cases hlt : k < t.dirs.length
      · obtain ⟨x, hx⟩ : ∃ x, t.dirs[k]? = some x := ⟨_, List.getElem?_eq_getElem hlt⟩
        obtain ⟨ad, had, hadl, hcell⟩ := HS.out k x hx
        subst had
        have hcw := (HB.out.cell (p := ad.add k) (by rw [add_block]; exact hadl)).trans hcell
        obtain ⟨b, hb⟩ : ∃ b : ByteArray, (⟨x.toArray⟩ : ByteArray) = b := ⟨_, rfl⟩
        rw [hb] at hcw
        have hbx : b.data.toList = x := by rw [← hb]
        have hbs : b.size + n.size ≤ 1000 := by
          have h1 := HD.out x (List.mem_of_getElem? hx)
          have h2 : b.size = x.length := by rw [← hbx]; simp
          omega
        have HX := Lib.hid hx
        have hwi := HW.out wr HB.out b hbs
        rw [hbx] at hwi
        clear hcell hx hb
        cases hy : withinT t n.data.toList x with
        | some y =>
          rw [hy] at hwi
          have hfin : ∀ w', Below w.heap.size w w' → FindPost w (findT t f.data.toList n.data.toList false) (.returned (.tuple #[.string (optS (some y)), .bool true])) w' := fun w' hb => by
            rw [findT_false, find_hit _ _ k x y HX.out HN.out hy]
            exact ⟨rfl, hb⟩
          have HF := Lib.hid hfin
          have HWI := Lib.hid hwi
          clear hfin hwi hy
          go_wp2_with (go_at_call 33; refine HWI.out.mono ?_; rintro e w3 ⟨rfl, b3⟩; have B3 := Lib.hid (HB.out.trans (b3.mono HB.out.size)); clear b3)
          go_ret2
          exact HF.out _ B3.out
        | none =>
          rw [hy] at hwi
          have hfin : (t.dirs.take (k + 1)).findSome? (withinT t n.data.toList) = none := by rw [find_take _ _ k x HX.out, HN.out, hy]; rfl
          have HF := Lib.hid hfin
          have HWI := Lib.hid hwi
          clear hfin hwi hy
          go_wp2_with (go_at_call 33; refine HWI.out.mono ?_; rintro e w3 ⟨rfl, b3⟩; have B3 := Lib.hid (HB.out.trans (b3.mono HB.out.size)); clear b3)
          go_roundw
          case rel => exact ⟨k + 1, by go_num, hlt, B3.out, HF.out⟩
          case measure => simp [intOf]; omega
      · have hge : ¬ ((k : Int) < (t.dirs.length : Int)) := by omega
        have hfin : FindPost w (findT t f.data.toList n.data.toList false) (.returned (.tuple #[.string ⟨#[]⟩, .bool false])) wr := by
          have h1 := HN.out
          rw [List.take_of_length_le (by omega)] at h1
          rw [findT_false, h1]
          exact ⟨rfl, HB.out⟩
        have HF := Lib.hid hfin
        clear hfin
        go_wp2
        go_ret2
        exact HF.out
  | true =>
    have hwd := HW.out
    cases hy : withinT t n.data.toList (dirL f.data.toList) with
    | some y =>
      have HWD := Lib.hid (fun w1 (b : Below w.heap.size w w1) => (show Calls Tryd.prog 33 #[.pointer (some ⟨p, 0, none⟩), .string D, .string n] w1 fun e w' => e = .returned (.tuple #[.string (optS (some y)), .bool true]) ∧ Below w1.heap.size w1 w' from by
        have := hwd w1 b D HDS.out
        rw [hDd, hy] at this
        exact this))
      have hfin : ∀ w', Below w.heap.size w w' → FindPost w (findT t f.data.toList n.data.toList true) (.returned (.tuple #[.string (optS (some y)), .bool true])) w' := fun w' hb => by
        rw [findT_hit hy]
        exact ⟨rfl, hb⟩
      have HF := Lib.hid hfin
      clear hfin hy hwd c0 hDd
      go_enter Tryd.func13, Tryd.ntmps13
      go_wp2_with (first
        | (go_at_call 34; refine (HDir.out _).mono ?_; rintro e w1 ⟨rfl, b1⟩; have B1 := Lib.hid b1; clear b1)
        | (go_at_call 33; refine (HWD.out w1 B1.out).mono ?_; rintro e w2 ⟨rfl, b2⟩; have B2 := Lib.hid (B1.out.trans (b2.mono B1.out.size)); clear b2))
      go_ret2
      exact HF.out _ B2.out
    | none =>
      have HQ := Lib.hid hy
      have HWD := Lib.hid (fun w1 (b : Below w.heap.size w w1) => (show Calls Tryd.prog 33 #[.pointer (some ⟨p, 0, none⟩), .string D, .string n] w1 fun e w' => e = .returned (.tuple #[.string ⟨#[]⟩, .bool false]) ∧ Below w1.heap.size w1 w' from by
        have := hwd w1 b D HDS.out
        rw [hDd, hy] at this
        exact this))
      clear hy hwd hDd c0
      go_enter Tryd.func13, Tryd.ntmps13
      go_wp2_with (first
        | (go_at_call 34; refine (HDir.out _).mono ?_; rintro e w1 ⟨rfl, b1⟩; have B1 := Lib.hid b1; clear b1)
        | (go_at_call 33; refine (HWD.out w1 B1.out).mono ?_; rintro e w2 ⟨rfl, b2⟩; have B2 := Lib.hid (B1.out.trans (b2.mono B1.out.size)); have c2 := HC0.out w2 B2.out; clear b2))
      go_loopw [34] (FindRel w t n.data.toList) (fun i _ => t.dirs.length - (intOf i).toNat)
      case atStart => exact ⟨0, rfl, Nat.zero_le _, B2.out, rfl⟩
      case round =>
        obtain ⟨k, rfl, hk, hbel, hnone⟩ := hrel
        have HB := Lib.hid hbel
        have HN := Lib.hid hnone
        clear hbel hnone
        by_cases hlt : k < t.dirs.length
        · obtain ⟨x, hx⟩ : ∃ x, t.dirs[k]? = some x := ⟨_, List.getElem?_eq_getElem hlt⟩
          obtain ⟨ad, had, hadl, hcell⟩ := HS.out k x hx
          subst had
          have hcw := (HB.out.cell (p := ad.add k) (by rw [add_block]; exact hadl)).trans hcell
          obtain ⟨b, hb⟩ : ∃ b : ByteArray, (⟨x.toArray⟩ : ByteArray) = b := ⟨_, rfl⟩
          rw [hb] at hcw
          have hbx : b.data.toList = x := by rw [← hb]
          have hbs : b.size + n.size ≤ 1000 := by
            have h1 := HD.out x (List.mem_of_getElem? hx)
            have h2 : b.size = x.length := by rw [← hbx]; simp
            omega
          have HX := Lib.hid hx
          have hwi := HW.out wr HB.out b hbs
          rw [hbx] at hwi
          clear hcell hx hb
          cases hy : withinT t n.data.toList x with
          | some y =>
            rw [hy] at hwi
            have hfin : ∀ w', Below w.heap.size w w' → FindPost w (findT t f.data.toList n.data.toList true) (.returned (.tuple #[.string (optS (some y)), .bool true])) w' := fun w' hb => by
              rw [findT_true HQ.out, find_hit _ _ k x y HX.out HN.out hy]
              exact ⟨rfl, hb⟩
            have HF := Lib.hid hfin
            have HWI := Lib.hid hwi
            clear hfin hwi hy
            go_wp2_with (go_at_call 33; refine HWI.out.mono ?_; rintro e w3 ⟨rfl, b3⟩; have B3 := Lib.hid (HB.out.trans (b3.mono HB.out.size)); clear b3)
            go_ret2
            exact HF.out _ B3.out
          | none =>
            rw [hy] at hwi
            have hfin : (t.dirs.take (k + 1)).findSome? (withinT t n.data.toList) = none := by rw [find_take _ _ k x HX.out, HN.out, hy]; rfl
            have HF := Lib.hid hfin
            have HWI := Lib.hid hwi
            clear hfin hwi hy
            go_wp2_with (go_at_call 33; refine HWI.out.mono ?_; rintro e w3 ⟨rfl, b3⟩; have B3 := Lib.hid (HB.out.trans (b3.mono HB.out.size)); clear b3)
            go_roundw
            case rel => exact ⟨k + 1, by go_num, hlt, B3.out, HF.out⟩
            case measure => simp [intOf]; omega
        · have hge : ¬ ((k : Int) < (t.dirs.length : Int)) := by omega
          have hfin : FindPost w (findT t f.data.toList n.data.toList true) (.returned (.tuple #[.string ⟨#[]⟩, .bool false])) wr := by
            have h1 := HN.out
            rw [List.take_of_length_le (by omega)] at h1
            rw [findT_true HQ.out, h1]
            exact ⟨rfl, HB.out⟩
          have HF := Lib.hid hfin
          clear hfin
          go_wp2
          go_ret2
          exact HF.out

end Go.Proofs.YtfjdfdpelilelaaDoor
