/-
  Texts of the proof, put together: LBytes, SmT, SmL, RxA.
-/
import Derived.Test.YtpnboieppkjfnaaGreatG25
import Derived.Test.YtpnboieppkjfnaaGreatG26
import Derived.BigQuiet
import Derived.StillTailTactics
import Derived.Test.YtpnboieppkjfnaaGreatG24
import Derived.Test.YtpnboieppkjfnaaGreatG11

/-
  LexBytes, walked.
-/
namespace Go.Proofs.YtpnboieppkjfnaaGreat
open Go.RowKit

theorem TokAt.next {F : ByteArray} {t : Tk} {g j : Nat} {w w' : World} (h : TokAt F t g j w) (b : Below w.heap.size w w') (hg : g < w.heap.size) : TokAt F t g j w' := by
  obtain ⟨h0, h1, h2, h3, h4, h5, h6, h7⟩ := h
  exact ⟨bcell b h0 hg, bcell b h1 hg, bcell b h2 hg, bcell b h3 hg, bcell b h4 hg, bcell b h5 hg, bcell b h6 hg, bcell b h7 hg⟩
theorem ToksAt.next {F : ByteArray} {T : List Tk} {v : Value} {w w' : World} (h : ToksAt F T v w) (b : Below w.heap.size w w') : ToksAt F T v w' := by
  obtain ⟨a, cap, hv, h1, h2, h3⟩ := h
  refine ⟨a, cap, hv, h1, h2, fun k t ht => ?_⟩
  obtain ⟨g, hg, hlt, hk⟩ := h3 k t ht
  exact ⟨g, hg, Nat.lt_of_lt_of_le hlt b.size, hk.next b hlt⟩
theorem LinesAt.next {F : ByteArray} {lines : List Ln} {v : Value} {w w' : World} (h : LinesAt F lines v w) (b : Below w.heap.size w w') : LinesAt F lines v w' := by
  obtain ⟨a, cap, hv, h1, h2, h3⟩ := h
  refine ⟨a, cap, hv, h1, h2, fun k t ht => ?_⟩
  obtain ⟨g, tv, hg, hlt, k0, k1, k2, k3, hT⟩ := h3 k t ht
  exact ⟨g, tv, hg, Nat.lt_of_lt_of_le hlt b.size, bcell b k0 hlt, bcell b k1 hlt, bcell b k2 hlt, bcell b k3 hlt, hT.next b⟩

theorem below_up {W w w' : World} (h : Below W.heap.size W w) (b : Below w.heap.size w w') : Below W.heap.size W w' := h.trans (b.mono h.size)

theorem awake_more {W w : World} (b : Below W.heap.size W w) {e : Ending} {w' : World} (h : AwakePost w e w') : AwakePost W e w' := ⟨h.1, b.trans (h.2.mono b.size)⟩

/-- What the great test loads. -/
def BackS (b g gt k jn : Nat) (t : Tk) (to : Nat) (tv : Value) (X : ByteArray) (w : World) : Prop :=
  w.cell? ⟨b, 0, none⟩ = some (.string ⟨#[102]⟩) ∧ w.cell? ⟨b, 1, none⟩ = some (.int .i64 (t.f : Int)) ∧ w.cell? ⟨b, 2, none⟩ = some (.int .i64 (t.t : Int)) ∧ w.cell? ⟨g, k * 4, none⟩ = some tv ∧ w.cell? ⟨g, k * 4 + 2, none⟩ = some (.int .i64 (to : Int)) ∧ w.cell? ⟨gt, jn * 8 + 1, none⟩ = some (.string X)
theorem BackS.next {b g gt k jn : Nat} {t : Tk} {to : Nat} {tv : Value} {X : ByteArray} {w w' : World} (h : BackS b g gt k jn t to tv X w) (hb : Below w.heap.size w w') (h1 : b < w.heap.size) (h2 : g < w.heap.size) (h3 : gt < w.heap.size) : BackS b g gt k jn t to tv X w' := by
  obtain ⟨a0, a1, a2, a3, a4, a5⟩ := h
  exact ⟨bcell hb a0 h1, bcell hb a1 h1, bcell hb a2 h1, bcell hb a3 h2, bcell hb a4 h2, bcell hb a5 h3⟩
theorem backS_of {w : World} {g gt k jn : Nat} {t : Tk} {to : Nat} {tv : Value} {X : ByteArray} (h2 : g < w.heap.size) (h3 : gt < w.heap.size) (a3 : w.cell? ⟨g, k * 4, none⟩ = some tv) (a4 : w.cell? ⟨g, k * 4 + 2, none⟩ = some (.int .i64 (to : Int))) (a5 : w.cell? ⟨gt, jn * 8 + 1, none⟩ = some (.string X)) :
    BackS w.heap.size g gt k jn t to tv X ((w.alloc (.cells #[.string ⟨#[102]⟩, .int .i64 (t.f : Int), .int .i64 (t.t : Int)] 102)).drew) := by
  have hn := Lib.cell_of_heap (heap_alloc_new w (.cells #[.string ⟨#[102]⟩, .int .i64 (t.f : Int), .int .i64 (t.t : Int)] 102))
  have ha : ∀ (b o : Nat) (v : Value), b < w.heap.size → w.cell? ⟨b, o, none⟩ = some v → (w.alloc (.cells #[.string ⟨#[102]⟩, .int .i64 (t.f : Int), .int .i64 (t.t : Int)] 102)).drew.cell? ⟨b, o, none⟩ = some v := fun b o v hb hv => (World.cell?_alloc_lt w _ ⟨b, o, none⟩ hb).trans hv
  exact ⟨(hn 0).trans rfl, (hn 1).trans rfl, (hn 2).trans rfl, ha _ _ _ h2 a3, ha _ _ _ h2 a4, ha _ _ _ h3 a5⟩
theorem below_back {wo wr w3 : World} {o : Obj} (h : Below wo.heap.size wo wr) (b : Below (wr.alloc o).drew.heap.size (wr.alloc o).drew w3) : Below wo.heap.size wo w3 :=
  h.trans ((((Below.refl _ _).alloc (Nat.le_refl _) o).drew.trans (b.mono (by simp))).mono h.size)

theorem LnOk.le {l : List UInt8} : ∀ {a : Nat} {T : List Ln}, LnOk l a T → a ≤ lastT a T
  | _, [], _ => Nat.le_refl _
  | _, _ :: _, h => Nat.le_trans h.2.1 (LnOk.le h.2.2.2.2)

end Go.Proofs.YtpnboieppkjfnaaGreat

/-
  The document's SameToken and SameDiags, of what is the same.
-/
namespace Go.Proofs.YtpnboieppkjfnaaGreat
open Go.RowKit

def tokV (F : ByteArray) (t : Tk) : Value := .agg #[.int .i64 (t.k : Int), .string ⟨t.x.toArray⟩, .bool t.sp, .string F, .int .i64 (t.f : Int), .int .i64 (t.t : Int), .bool false, .slice none 0 0]
def TruePost (w : World) (e : Ending) (w' : World) : Prop := e = .returned (.bool true) ∧ Below w.heap.size w w'

set_option maxRecDepth 100000 in
set_option maxHeartbeats 1600000 in
theorem sameToken_any (F : ByteArray) (t : Tk) (w : World) : Calls Tryz.prog 61 #[tokV F t, tokV F t] w (TruePost w) := by
  unfold tokV
  obtain ⟨X, hX⟩ : ∃ X : ByteArray, (⟨t.x.toArray⟩ : ByteArray) = X := ⟨_, rfl⟩
  rw [hX]
  clear hX
  go_enter Tryz.func61, Tryz.ntmps61
  go_wp2
  obtain ⟨o, ho⟩ : ∃ o : Obj, Obj.cells #[.int .i64 (t.k : Int), .string X, .bool t.sp, .string F, .int .i64 (t.f : Int), .int .i64 (t.t : Int), .bool false, .slice none 0 0] 110 = o := ⟨_, rfl⟩
  have hB : Below w.heap.size w ((w.alloc o).alloc o) := ((Below.refl _ _).alloc (Nat.le_refl _) o).alloc (by simp) o
  have hc : ((w.alloc o).alloc o).cell? ⟨w.heap.size, 7, none⟩ = some (.slice none 0 0) := by
    rw [Lib.cell_of_heap (show ((w.alloc o).alloc o).heap[w.heap.size]? = some (.cells #[.int .i64 (t.k : Int), .string X, .bool t.sp, .string F, .int .i64 (t.f : Int), .int .i64 (t.t : Int), .bool false, .slice none 0 0] 110 (0, 0)) from by rw [heap_one, ho])]
    rfl
  rw [ho]
  obtain ⟨w2, hw2⟩ : ∃ w2, (w.alloc o).alloc o = w2 := ⟨_, rfl⟩
  rw [hw2] at hB hc ⊢
  have HB := Lib.hid hB
  clear hB hw2 ho
  go_loop [5] (fun i => i = .int .i64 0) (fun _ => 1)
  case atStart => rfl
  case round =>
    subst hrel
    go_wp2
    go_ret
    exact ⟨rfl, HB.out⟩

def diagV (F : ByteArray) (d : Dg) : Value := .agg #[.int .i64 (d.c : Int), .string F, .int .i64 (d.f : Int), .int .i64 (d.t : Int)]

set_option maxRecDepth 100000 in
set_option maxHeartbeats 1600000 in
theorem sameDiags_any {F : ByteArray} {D : List Dg} {v v' : Value} {w : World} (h : DiagsAt F D v w) (h' : DiagsAt F D v' w) : Calls Tryz.prog 22 #[v, v'] w (TruePost w) := by
  obtain ⟨a, cap, rfl, hc1, hc2, hcell⟩ := h
  obtain ⟨a', cap', rfl, hc1', hc2', hcell'⟩ := h'
  have HC := Lib.hid hcell
  have HC' := Lib.hid hcell'
  unfold maxLen at hc2 hc2'
  clear hcell hcell'
  have x0 : (((D.length : Nat) : Int) != ((D.length : Nat) : Int)) = false := by simp
  go_enter Tryz.func22, Tryz.ntmps22
  go_wp2
  go_loopw [5] (fun i wr => ∃ k : Nat, i = .int .i64 (k : Int) ∧ k ≤ D.length ∧ Below w.heap.size w wr) (fun i _ => D.length - (intOf i).toNat)
  case atStart => exact ⟨0, rfl, Nat.zero_le _, Below.refl _ _⟩
  case round =>
    obtain ⟨k, rfl, hk, hb⟩ := hrel
    by_cases hlt : k < D.length
    · obtain ⟨d, hd⟩ : ∃ d, D[k]? = some d := ⟨_, List.getElem?_eq_getElem hlt⟩
      obtain ⟨g, rfl, hg, e0, e1, e2, e3⟩ := HC.out k d hd
      obtain ⟨g', rfl, hg', f0, f1, f2, f3⟩ := HC'.out k d hd
      have e0 := bcell hb e0 hg
      have e1 := bcell hb e1 hg
      have e2 := bcell hb e2 hg
      have e3 := bcell hb e3 hg
      have f0 := bcell hb f0 hg'
      have f1 := bcell hb f1 hg'
      have f2 := bcell hb f2 hg'
      have f3 := bcell hb f3 hg'
      have hkI : (k : Int) < (D.length : Int) := by omega
      have hk0 : (0 : Int) ≤ (k : Int) := by omega
      have HB := Lib.hid hb
      clear hb hd
      go_wp2
      go_quiet (fail)
      go_wp2
      go_roundw
      case rel => exact ⟨k + 1, by go_num, hlt, HB.out.trans ((Below.of_drews _ _).mono HB.out.size)⟩
      case measure => simp [intOf]; omega
    · have hkI : ¬ (k : Int) < (D.length : Int) := by omega
      go_wp2
      go_ret
      exact ⟨rfl, hb⟩

end Go.Proofs.YtpnboieppkjfnaaGreat

/-
  The document's SameTokens and SameLines, of what is the same.
-/
namespace Go.Proofs.YtpnboieppkjfnaaGreat
open Go.RowKit

set_option maxRecDepth 100000 in
set_option maxHeartbeats 3200000 in
theorem sameTokens_any {F : ByteArray} {T : List Tk} {v v' : Value} {w : World} (h : ToksAt F T v w) (h' : ToksAt F T v' w) : Calls Tryz.prog 38 #[v, v'] w (TruePost w) := by
  obtain ⟨a, cap, rfl, hc1, hc2, hcell⟩ := h
  obtain ⟨a', cap', rfl, hc1', hc2', hcell'⟩ := h'
  have HC := Lib.hid hcell
  have HC' := Lib.hid hcell'
  unfold maxLen at hc2 hc2'
  clear hcell hcell'
  go_enter Tryz.func38, Tryz.ntmps38
  go_wp2
  go_loopw [5] (fun i wr => ∃ k : Nat, i = .int .i64 (k : Int) ∧ k ≤ T.length ∧ Below w.heap.size w wr) (fun i _ => T.length - (intOf i).toNat)
  case atStart => exact ⟨0, rfl, Nat.zero_le _, Below.refl _ _⟩
  case round =>
    obtain ⟨k, rfl, hk, hb⟩ := hrel
    by_cases hlt : k < T.length
    · obtain ⟨t, ht⟩ : ∃ t, T[k]? = some t := ⟨_, List.getElem?_eq_getElem hlt⟩
      obtain ⟨g, rfl, hg, hta⟩ := HC.out k t ht
      obtain ⟨g', rfl, hg', htb⟩ := HC'.out k t ht
      obtain ⟨e0, e1, e2, e3, e4, e5, e6, e7⟩ := hta.next hb hg
      obtain ⟨f0, f1, f2, f3, f4, f5, f6, f7⟩ := htb.next hb hg'
      have hkI : (k : Int) < (T.length : Int) := by omega
      have hk0 : (0 : Int) ≤ (k : Int) := by omega
      have HB := Lib.hid hb
      have HS : Hid (∀ X : World, Calls Tryz.prog 61 #[.agg #[.int .i64 (t.k : Int), .string ⟨t.x.toArray⟩, .bool t.sp, .string F, .int .i64 (t.f : Int), .int .i64 (t.t : Int), .bool false, .slice none 0 0], .agg #[.int .i64 (t.k : Int), .string ⟨t.x.toArray⟩, .bool t.sp, .string F, .int .i64 (t.f : Int), .int .i64 (t.t : Int), .bool false, .slice none 0 0]] X (TruePost X)) := Lib.hid (fun X => sameToken_any F t X)
      obtain ⟨X, hX⟩ : ∃ X : ByteArray, (⟨t.x.toArray⟩ : ByteArray) = X := ⟨_, rfl⟩
      rw [hX] at e1 f1 HS
      clear hb ht hta htb hX
      go_wp2
      go_still_tail 8, (by kernel_rfl)
      change wpList _ _ _ _ _ wr.drew
      have HB2 : Hid (Below w.heap.size w wr.drew) := Lib.hid HB.out.drew
      obtain ⟨w2, hw2⟩ : ∃ w2, wr.drew = w2 := ⟨_, rfl⟩
      rw [hw2] at HB2 ⊢
      clear hw2 e0 e1 e2 e3 e4 e5 e6 e7 f0 f1 f2 f3 f4 f5 f6 f7
      go_wp2_with (go_at_call 61; (with_reducible refine (HS.out _).mono ?_); rintro e w3 ⟨rfl, hb3⟩; have HB3 := Lib.hid hb3; clear hb3)
      go_roundw
      case rel => exact ⟨k + 1, by go_num, hlt, HB2.out.trans (HB3.out.mono HB2.out.size)⟩
      case measure => simp [intOf]; omega
    · have hkI : ¬ (k : Int) < (T.length : Int) := by omega
      go_wp2
      go_ret
      exact ⟨rfl, hb⟩

theorem ToksAt.over {F : ByteArray} {T : List Tk} {v : Value} {w w' : World} (h : ToksAt F T v w) (b : Below w.heap.size w w') : ToksAt F T v w' := by
  obtain ⟨a, cap, hv, h1, h2, h3⟩ := h
  refine ⟨a, cap, hv, h1, h2, fun k t ht => ?_⟩
  obtain ⟨g, hg, hlt, hta⟩ := h3 k t ht
  exact ⟨g, hg, Nat.lt_of_lt_of_le hlt b.size, hta.next b hlt⟩

set_option maxRecDepth 100000 in
set_option maxHeartbeats 6400000 in
theorem sameLines_any {F : ByteArray} {T : List Ln} {v v' : Value} {w : World} (h : LinesAt F T v w) (h' : LinesAt F T v' w) : Calls Tryz.prog 20 #[v, v'] w (TruePost w) := by
  obtain ⟨a, cap, rfl, hc1, hc2, hcell⟩ := h
  obtain ⟨a', cap', rfl, hc1', hc2', hcell'⟩ := h'
  have HC := Lib.hid hcell
  have HC' := Lib.hid hcell'
  unfold maxLen at hc2 hc2'
  clear hcell hcell'
  go_enter Tryz.func20, Tryz.ntmps20
  go_wp2
  go_loopw [5] (fun i wr => ∃ k : Nat, i = .int .i64 (k : Int) ∧ k ≤ T.length ∧ Below w.heap.size w wr) (fun i _ => T.length - (intOf i).toNat)
  case atStart => exact ⟨0, rfl, Nat.zero_le _, Below.refl _ _⟩
  case round =>
    obtain ⟨k, rfl, hk, hb⟩ := hrel
    by_cases hlt : k < T.length
    · obtain ⟨t, ht⟩ : ∃ t, T[k]? = some t := ⟨_, List.getElem?_eq_getElem hlt⟩
      obtain ⟨g, tv, rfl, hg, e0, e1, e2, e3, hta⟩ := HC.out k t ht
      obtain ⟨g', tv', rfl, hg', f0, f1, f2, f3, htb⟩ := HC'.out k t ht
      have e0 := bcell hb e0 hg
      have e1 := bcell hb e1 hg
      have e2 := bcell hb e2 hg
      have e3 := bcell hb e3 hg
      have f0 := bcell hb f0 hg'
      have f1 := bcell hb f1 hg'
      have f2 := bcell hb f2 hg'
      have f3 := bcell hb f3 hg'
      have hkI : (k : Int) < (T.length : Int) := by omega
      have hk0 : (0 : Int) ≤ (k : Int) := by omega
      have HB := Lib.hid hb
      have HS : Hid (∀ X : World, Below w.heap.size w X → Calls Tryz.prog 38 #[tv, tv'] X (TruePost X)) := Lib.hid (fun X hX => sameTokens_any (hta.over hX) (htb.over hX))
      have htv : tv.oneCell' = true := by
        obtain ⟨a, cap, hv, -⟩ := hta
        rw [hv]
        rfl
      clear hb ht hta htb
      go_wp2
      go_still_tail 48, (by kernel_rfl)
      change wpList _ _ _ _ _ wr.drew
      have HB2 : Hid (Below w.heap.size w wr.drew) := Lib.hid HB.out.drew
      obtain ⟨w2, hw2⟩ : ∃ w2, wr.drew = w2 := ⟨_, rfl⟩
      rw [hw2] at HB2 ⊢
      clear hw2 e0 e1 e2 e3 f0 f1 f2 f3
      go_wp2_with (go_at_call 38; (with_reducible refine (HS.out _ HB2.out).mono ?_); rintro e w3 ⟨rfl, hb3⟩; have HB3 := Lib.hid hb3; clear hb3)
      go_roundw
      case rel => exact ⟨k + 1, by go_num, hlt, HB2.out.trans (HB3.out.mono HB2.out.size)⟩
      case measure => simp [intOf]; omega
    · have hkI : ¬ (k : Int) < (T.length : Int) := by omega
      go_wp2
      go_ret
      exact ⟨rfl, hb⟩

end Go.Proofs.YtpnboieppkjfnaaGreat

/-
  The document's own at, letters, quoted and text, walked.
-/
namespace Go.Proofs.YtpnboieppkjfnaaGreat
open Go.RowKit

/-- A row of the document's characters, as it is read. -/
def RsAt (L : List Rn) (v : Value) (w : World) : Prop :=
  ∃ a cap, v = .slice a L.length cap ∧ L.length ≤ cap ∧ cap ≤ maxLen ∧ ∀ i r, L[i]? = some r → ∃ g, a = some ⟨g, 0, none⟩ ∧ g < w.heap.size ∧
    w.cell? ⟨g, i * 3, none⟩ = some (.int .u8 (r.c.toNat : Int)) ∧ w.cell? ⟨g, i * 3 + 1, none⟩ = some (.int .i64 (r.f : Int)) ∧ w.cell? ⟨g, i * 3 + 2, none⟩ = some (.int .i64 (r.t : Int))

theorem RRow.at {W : World} {L : List Rn} {v : Value} {w : World} (h : RRow W v L w) : RsAt L v w := rrow_cells h
theorem RsAt.next {L : List Rn} {v : Value} {w w' : World} (h : RsAt L v w) (b : Below w.heap.size w w') : RsAt L v w' := by
  obtain ⟨a, cap, hv, h1, h2, h3⟩ := h
  refine ⟨a, cap, hv, h1, h2, fun i r hr => ?_⟩
  obtain ⟨g, hg, hlt, e0, e1, e2⟩ := h3 i r hr
  exact ⟨g, hg, Nat.lt_of_lt_of_le hlt b.size, (b.cell (p := ⟨g, i * 3, none⟩) hlt).trans e0, (b.cell (p := ⟨g, i * 3 + 1, none⟩) hlt).trans e1, (b.cell (p := ⟨g, i * 3 + 2, none⟩) hlt).trans e2⟩

def BytePost (c : UInt8) (w : World) (e : Ending) (w' : World) : Prop := e = .returned (.int .u8 (c.toNat : Int)) ∧ w = w'

theorem get_bytes {L : List Rn} {i : Nat} {r : Rn} (h : L[i]? = some r) : (bytesOf L).getD i 0 = r.c := by simp [bytesOf, List.getD, h]
theorem get_past {L : List Rn} {i : Nat} (h : L.length ≤ i) : (bytesOf L).getD i 0 = 0 := by simp [bytesOf, List.getD, List.getElem?_eq_none h]

set_option maxRecDepth 100000 in
theorem rat_any {L : List Rn} {v : Value} {w : World} (h : RsAt L v w) (i : Nat) {x : Int} (hx : x = (i : Int)) : Calls Tryz.prog 54 #[v, .int .i64 x] w (BytePost ((bytesOf L).getD i 0) w) := by
  subst hx
  obtain ⟨a, cap, rfl, h1, h2, h3⟩ := h
  unfold maxLen at h2
  have hi0 : ¬ (i : Int) < 0 := by omega
  by_cases hi : i < L.length
  · obtain ⟨r, hr⟩ : ∃ r, L[i]? = some r := ⟨_, List.getElem?_eq_getElem hi⟩
    obtain ⟨g, rfl, hg, e0, -, -⟩ := h3 i r hr
    have hii : ¬ (L.length : Int) ≤ (i : Int) := by omega
    have hii2 : (i : Int) < (L.length : Int) := by omega
    rw [get_bytes hr]
    clear h3 hr
    go_enter Tryz.func54, Tryz.ntmps54
    go_wp2
    go_ret
    exact ⟨rfl, rfl⟩
  · have hii : (L.length : Int) ≤ (i : Int) := by omega
    rw [get_past (by omega)]
    clear h3
    go_enter Tryz.func54, Tryz.ntmps54
    go_wp2
    go_ret
    exact ⟨rfl, rfl⟩

/-- The letters ahead of a constant; -1 if none begins. -/
def rlet (c0 c1 c2 : UInt8) : Int := if c0.toNat = 34 ∨ c0.toNat = 39 then 0 else if c0.toNat = 117 ∧ c1.toNat = 56 ∧ c2.toNat = 34 then 2 else if (c0.toNat = 76 ∨ c0.toNat = 117 ∨ c0.toNat = 85) ∧ (c1.toNat = 34 ∨ c1.toNat = 39) then 1 else -1

set_option maxRecDepth 100000 in
set_option maxHeartbeats 3200000 in
theorem rletters_any {L : List Rn} {v : Value} {w : World} (h : RsAt L v w) (i : Nat) (hi : i ≤ 1000000) : Calls Tryz.prog 55 #[v, .int .i64 (i : Int)] w fun e w' => e = .returned (.int .i64 (rlet ((bytesOf L).getD i 0) ((bytesOf L).getD (i + 1) 0) ((bytesOf L).getD (i + 2) 0))) ∧ w = w' := by
  have A0 := rat_any h i (x := (i : Int)) rfl
  have A1 := rat_any h (i + 1) (x := (i : Int) + 1) (by omega)
  have A2 := rat_any h (i + 2) (x := (i : Int) + 2) (by omega)
  obtain ⟨c0, hc0⟩ : ∃ c0, (bytesOf L).getD i 0 = c0 := ⟨_, rfl⟩
  obtain ⟨c1, hc1⟩ : ∃ c1, (bytesOf L).getD (i + 1) 0 = c1 := ⟨_, rfl⟩
  obtain ⟨c2, hc2⟩ : ∃ c2, (bytesOf L).getD (i + 2) 0 = c2 := ⟨_, rfl⟩
  rw [hc0] at A0 ⊢
  rw [hc1] at A1 ⊢
  rw [hc2] at A2 ⊢
  have HA0 := Lib.hid A0
  have HA1 := Lib.hid A1
  have HA2 := Lib.hid A2
  clear A0 A1 A2 hc0 hc1 hc2 h
  go_enter Tryz.func55, Tryz.ntmps55
  go_wp2_with (first
    | (go_at_call 54; (with_reducible refine HA0.out.mono ?_); rintro e w' ⟨rfl, rfl⟩)
    | (go_at_call 54; (with_reducible refine HA1.out.mono ?_); rintro e w' ⟨rfl, rfl⟩)
    | (go_at_call 54; (with_reducible refine HA2.out.mono ?_); rintro e w' ⟨rfl, rfl⟩))
  all_goals
    go_ret
    refine ⟨ret_nat ?_, rfl⟩
    unfold rlet
    try simp only [beq_iff_eq, beq_eq_false_iff_ne] at *
    first
      | (rw [if_pos (by omega)])
      | (rw [if_neg (by omega), if_pos (by omega)])
      | (rw [if_neg (by omega), if_neg (by omega), if_pos (by omega)])
      | (rw [if_neg (by omega), if_neg (by omega), if_neg (by omega)])

end Go.Proofs.YtpnboieppkjfnaaGreat
