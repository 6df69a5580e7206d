/-
  The document's own punctuators, walked.
-/
import Derived.Test.YtpnboieppkjfnaaRxT
import Derived.Test.YtpnboieppkjfnaaLxAwake
import Derived.BigQuiet
import Derived.IntWalk
namespace Go.Proofs.Ytpnboieppkjfnaa
open Go.RowKit

def pfind (P : List (List UInt8)) (l : List UInt8) : Nat := match P.find? (fun p => p.isPrefixOf l) with
  | some p => p.length
  | none => 0
theorem pfind_all (l : List UInt8) : pfind PL l = punctN l := rfl
theorem pfind_hit {p : List UInt8} {P : List (List UInt8)} {l : List UInt8} (h : p.isPrefixOf l = true) : pfind (p :: P) l = p.length := by
  unfold pfind
  rw [List.find?_cons, h]
theorem pfind_miss {p : List UInt8} {P : List (List UInt8)} {l : List UInt8} (h : p.isPrefixOf l = false) : pfind (p :: P) l = pfind P l := by
  unfold pfind
  rw [List.find?_cons, h]
theorem PL_drop {k : Nat} {p : List UInt8} (h : PL[k]? = some p) : PL.drop k = p :: PL.drop (k + 1) := by
  obtain ⟨hk, rfl⟩ := List.getElem?_eq_some_iff.1 h
  exact List.drop_eq_getElem_cons hk
theorem PL_nz : ∀ p ∈ PL, ∀ c ∈ p, c ≠ 0 := by decide

/-- One byte of a punctuator further. -/
theorem pre_step {p l : List UInt8} {i j : Nat} (hp : ∀ c ∈ p, c ≠ 0) (h : j < p.length) : (p.drop j).isPrefixOf (l.drop (i + j)) = (decide (l.getD (i + j) 0 = p.getD j 0) && (p.drop (j + 1)).isPrefixOf (l.drop (i + (j + 1)))) := by
  rw [drop_cons h]
  rcases Nat.lt_or_ge (i + j) l.length with h1 | h1
  · rw [drop_cons h1, List.isPrefixOf_cons_cons]
    congr 1
    rw [Bool.eq_iff_iff, beq_iff_eq, decide_eq_true_iff]
    exact ⟨Eq.symm, Eq.symm⟩
  · rw [List.drop_eq_nil_of_le h1]
    have : l.getD (i + j) 0 = 0 := by simp [List.getD, List.getElem?_eq_none h1]
    rw [this]
    have hm : p.getD j 0 ∈ p := by
      have : p.getD j 0 = p[j] := by simp [List.getD, h]
      rw [this]
      exact List.getElem_mem h
    have hn := hp _ hm
    rw [decide_eq_false (fun e => hn e.symm)]
    rfl

def PuncAt (g : Nat) (w : World) : Prop := ∀ k p, PL[k]? = some p → w.cell? ⟨g, k, none⟩ = some (.string ⟨p.toArray⟩)
def PuncPost (w : World) (e : Ending) (w' : World) : Prop := ∃ g, e = .returned (.slice (some ⟨g, 0, none⟩) 54 54) ∧ PuncAt g w' ∧ Below w.heap.size w w'

theorem punc_cells (w : World) {cs : Array Value} {T : TypeId} (h : cs.toList = PL.map fun p => .string ⟨p.toArray⟩) : PuncAt w.heap.size (w.alloc (.cells cs T)) := by
  intro k p hp
  refine bcell_new (Below.refl _ _) ?_
  rw [← Array.getElem?_toList, h, List.getElem?_map, hp]
  rfl

set_option maxRecDepth 100000 in
set_option maxHeartbeats 3200000 in
theorem rpuncts_any (w : World) : Calls Try.prog 56 #[] w (PuncPost w) := by
  go_enter Try.func56, Try.ntmps56
  go_wp2
  go_ret
  exact ⟨w.heap.size, rfl, punc_cells w rfl, (Below.refl _ _).alloc (Nat.le_refl _) _⟩

theorem quiet_byte {f : FuncId} {args : Array Value} {w : World} {n : Nat} {b : UInt8} (h : Calls Try.prog f args (w.drewN n) (BytePost b (w.drewN n))) :
    Calls Try.prog f args (w.drewN n) fun e w'' => e = .returned (.int .u8 (b.toNat : Int)) ∧ ∃ m, w'' = w.drewN m :=
  h.mono fun _ _ ⟨he, hm⟩ => ⟨he, n, hm.symm⟩

def NumBelow (n : Nat) (w : World) (e : Ending) (w' : World) : Prop := e = .returned (.int .i64 (n : Int)) ∧ Below w.heap.size w w'

set_option maxRecDepth 100000 in
set_option maxHeartbeats 3200000 in
theorem rpunct_any {L : List Rn} {v : Value} {w : World} (h : RsAt L v w) (i : Nat) (hi : i ≤ 1000000) : Calls Try.prog 44 #[v, .int .i64 (i : Int)] w (NumBelow (punctN ((bytesOf L).drop i)) w) := by
  have H := Lib.hid h
  obtain ⟨l, hl⟩ : ∃ l, bytesOf L = l := ⟨_, rfl⟩
  have HL := Lib.hid hl
  rw [hl]
  clear h hl
  go_enter Try.func44, Try.ntmps44
  go_wp2_with (go_at_call 56; (with_reducible refine (rpuncts_any _).mono ?_); rintro e w1 ⟨g, rfl, hp, hb⟩; have HP := Lib.hid hp; have HB := Lib.hid hb; clear hp hb)
  have H1 := Lib.hid (H.out.next HB.out)
  go_loopw [6] (fun k wr => ∃ (kn m : Nat), k = .int .i64 (kn : Int) ∧ kn ≤ 54 ∧ wr = w1.drewN m ∧ pfind (PL.drop kn) (l.drop i) = punctN (l.drop i)) (fun k _ => 54 - (intOf k).toNat)
  case atStart => exact ⟨0, 0, rfl, Nat.zero_le _, rfl, pfind_all _⟩
  case round =>
    obtain ⟨k, m, rfl, hk, hw, hf⟩ := hrel
    have HW := Lib.hid hw
    have HF := Lib.hid hf
    clear hw hf
    by_cases hlt : k < 54
    · obtain ⟨p, hp⟩ : ∃ p, PL[k]? = some p := ⟨_, List.getElem?_eq_getElem (by show k < 54; exact hlt)⟩
      have hkI : (k : Int) < 54 := by omega
      have hm := List.mem_of_getElem? hp
      have hsz := PL_len p hm
      obtain ⟨s, hs⟩ : ∃ s : ByteArray, s = ⟨p.toArray⟩ := ⟨_, rfl⟩
      have hsp : s.data.toList = p := by rw [hs]
      have HC : Hid (∀ n, (w1.drewN n).cell? ⟨g, k, none⟩ = some (.string s)) := Lib.hid (fun n => by rw [hs]; exact HP.out k p hp)
      have hss : s.size = p.length := by rw [← len_byte, hsp]
      rw [← hss] at hsz
      have HX := Lib.hid (show pfind (s.data.toList :: PL.drop (k + 1)) (l.drop i) = punctN (l.drop i) from by rw [hsp, ← PL_drop hp]; exact HF.out)
      have HZ := Lib.hid (show ∀ c ∈ s.data.toList, c ≠ 0 from by rw [hsp]; exact PL_nz p hm)
      clear hp hm hs hsp hss
      go_wp2
      go_loopw [7] (fun j wx => ∃ (jn n : Nat), j = .int .i64 (jn : Int) ∧ jn ≤ s.size ∧ wx = w1.drewN n ∧ (s.data.toList.drop jn).isPrefixOf (l.drop (i + jn)) = s.data.toList.isPrefixOf (l.drop i)) (fun j _ => s.size - (intOf j).toNat)
      case atStart => exact ⟨0, m, rfl, Nat.zero_le _, HW.out, rfl⟩
      case round =>
        obtain ⟨j, n, rfl, hj, hw, hx⟩ := hrel
        have e0 : wr.cell? ⟨g, k, none⟩ = some (.string s) := by rw [hw]; exact HC.out n
        have e1 : ∀ q, (wr.drewN q).cell? ⟨g, k, none⟩ = some (.string s) := fun q => e0
        have HA : Hid (∀ q, Calls Try.prog 38 #[v, .int .i64 ((i : Int) + (j : Int))] (wr.drewN q) (BytePost (l.getD (i + j) 0) (wr.drewN q))) := Lib.hid (fun q => by
          rw [← HL.out]
          refine rat_any ?_ (i + j) (by omega)
          rw [hw]
          rw [World.drewN_drewN]
          exact H1.out.next (Below.of_drews _ _))
        obtain ⟨c, hc⟩ : ∃ c, l.getD (i + j) 0 = c := ⟨_, rfl⟩
        rw [hc] at HA
        have HWW := Lib.hid hw
        have HXX := Lib.hid hx
        have HCC := Lib.hid hc
        clear hw hx hc
        by_cases hjs : j < s.size
        · have hst := pre_step (p := s.data.toList) (l := l) (i := i) (j := j) HZ.out (by rw [len_byte]; exact hjs)
          rw [HCC.out, get_byte s j hjs] at hst
          have hd : decide ((j : Int) < (s.size : Int)) = true := decide_eq_true (by omega)
          have hjI : (j : Int) < (s.size : Int) := by omega
          by_cases hcs : c = s[j]
          · have hb : (((c.toNat : Nat) : Int) == ((s[j].toNat : Nat) : Int)) = true := by rw [hcs]; simp
            have HN : Hid ((s.data.toList.drop (j + 1)).isPrefixOf (l.drop (i + (j + 1))) = s.data.toList.isPrefixOf (l.drop i)) := Lib.hid (by rw [← HXX.out, hst, decide_eq_true hcs]; rfl)
            have hwr : IntKind.i64.wrap ((i : Int) + (j : Int)) = (i : Int) + (j : Int) := IntWalk.i64_in _ (by omega)
            clear hcs hst
            go_wp2
            go_quiet ((go_at_call 38; exact quiet_byte (HA.out _)))
            clear hwr
            go_wp2
            go_roundw
            case rel => exact ⟨j + 1, _, by go_num, by omega, by rw [HWW.out, World.drewN_drewN], HN.out⟩
            case measure => simp [intOf]; omega
          · have hb : (((c.toNat : Nat) : Int) == ((s[j].toNat : Nat) : Int)) = false := by
              rw [beq_eq_false_iff_ne]
              intro e
              exact hcs (UInt8.toNat_inj.1 (by omega))
            have HN : Hid (s.data.toList.isPrefixOf (l.drop i) = false) := Lib.hid (by rw [← HXX.out, hst, decide_eq_false hcs]; rfl)
            have hwr : IntKind.i64.wrap ((i : Int) + (j : Int)) = (i : Int) + (j : Int) := IntWalk.i64_in _ (by omega)
            have hjn : ((j : Int) == (s.size : Int)) = false := by rw [beq_eq_false_iff_ne]; omega
            clear hcs hst
            go_wp2
            go_quiet ((go_at_call 38; exact quiet_byte (HA.out _)))
            clear hwr
            go_wp2
            go_roundw
            case rel => exact ⟨k + 1, _, by go_num, by omega, by rw [HWW.out, World.drewN_drewN], by rw [← HX.out, pfind_miss HN.out]⟩
            case measure => simp [intOf]; omega
        · have hje : j = s.size := by omega
          have hd : decide ((j : Int) < (s.size : Int)) = false := decide_eq_false (by omega)
          have hjn : ((j : Int) == (s.size : Int)) = true := by rw [beq_iff_eq]; omega
          have HN : Hid (s.data.toList.isPrefixOf (l.drop i) = true) := Lib.hid (by
            rw [← HXX.out, List.drop_eq_nil_of_le (by rw [len_byte]; omega)]
            rfl)
          go_wp2
          go_quiet (fail)
          go_wp2
          go_ret
          refine ⟨?_, ?_⟩
          · rw [← HX.out, pfind_hit HN.out, len_byte, ← hje]
            rfl
          · rw [HWW.out, World.drewN_drewN]
            exact HB.out.trans ((Below.of_drews _ _).mono HB.out.size)
    · have hkI : ¬ (k : Int) < 54 := by omega
      have hk2 : k = 54 := by omega
      go_wp2
      go_ret
      refine ⟨?_, ?_⟩
      · rw [← HF.out, hk2]
        rfl
      · rw [HW.out]
        exact HB.out.trans ((Below.of_drews _ m).mono HB.out.size)

end Go.Proofs.Ytpnboieppkjfnaa
