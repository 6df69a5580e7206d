/-
  The document's own Back, in memory; a row of bytes as a text.
-/
import Derived.Test.YtpnboieppkjfnaaRChars
import Derived.Laws.BytesArg
namespace Go.Proofs.Ytpnboieppkjfnaa
open Go.RowKit

def bcells (bs : List UInt8) : List Value := bs.map fun c => Value.int .u8 (c.toNat : Int)
theorem bcells_len (bs : List UInt8) : (bcells bs).length = bs.length := by simp [bcells]

theorem Try.infoByte : (Try.prog.info? 5).map (fun i => (i.zero, i.size, i.bytes)) = some (some (.int .u8 0), 1, 1) := by kernel_rfl

def BRow (W : World) (v : Value) (bs : List UInt8) (w : World) : Prop := Up W 5 1 v bs.length (bcells bs) w

theorem byte_one {x : Int} : ∀ u ∈ [Value.int .u8 x], u.oneCell' = true := by
  intro u hu
  simp only [List.mem_cons, List.not_mem_nil, or_false] at hu
  subst hu
  rfl

theorem BRow.push {W : World} {v : Value} {bs : List UInt8} {w : World} {x : Int} (c : UInt8) (h : Up W 5 1 v (bs.length + 1) (bcells bs ++ [.int .u8 x]) w) (hx : x = (c.toNat : Int)) : BRow W v (bs ++ [c]) w := by
  unfold BRow
  rw [List.length_append]
  have e : bcells (bs ++ [c]) = bcells bs ++ [.int .u8 x] := by rw [hx]; simp [bcells]
  rw [e]
  exact h

set_option maxRecDepth 100000 in
theorem brow_text {W : World} {a : Option Addr} {cap : Nat} {bs : List UInt8} {w : World} (h : BRow W (.slice a bs.length cap) bs w) : (convert 46 9 (.slice a bs.length cap)).run Try.prog w = .ok (.string ⟨bs.toArray⟩) w := by
  obtain ⟨a', cap', hv, -, -, hcell⟩ := row_form h.1
  simp only [Value.slice.injEq] at hv
  obtain ⟨rfl, -, rfl⟩ := hv
  cases hb : bs with
  | nil =>
    subst hb
    obtain ⟨-, ⟨hv, -⟩ | ⟨g, c', cur, hv, -⟩⟩ := h.1
    · simp only [Value.slice.injEq] at hv
      obtain ⟨rfl, -, rfl⟩ := hv
      exact run_convert_bytes_nil (P := Try.prog) w 46 5 Try.underlying46 Try.underlying5 0 0 9 Try.underlying9
    · simp only [Value.slice.injEq] at hv
      obtain ⟨rfl, -, rfl⟩ := hv
      exact run_convert_bytes_arg (P := Try.prog) w 46 5 Try.underlying46 Try.underlying5 g 0 0 cap [] rfl (fun i hi => by omega) 9 Try.underlying9
  | cons b0 bt =>
    have h0 : (bcells bs)[0]? = some (.int .u8 (b0.toNat : Int)) := by rw [hb]; rfl
    obtain ⟨g, rfl, -, -⟩ := hcell 0 _ h0
    have e := run_convert_bytes_arg (P := Try.prog) w 46 5 Try.underlying46 Try.underlying5 g 0 bs.length cap (bs.map fun c => (c.toNat : Int)) (by simp) (fun i hi => by
      have hi' : (bcells bs)[i]? = some (.int .u8 ((bs[i]).toNat : Int)) := by simp [bcells, hi]
      obtain ⟨g', hg', -, hc⟩ := hcell i _ hi'
      simp only [Option.some.injEq, Addr.mk.injEq, and_true] at hg'
      subst hg'
      rw [Nat.zero_add, hc]
      simp [List.getD, hi]) 9 Try.underlying9
    rw [← hb, e]
    have : strOfNums (bs.map fun c => (c.toNat : Int)) = ⟨bs.toArray⟩ := by
      unfold strOfNums
      rw [List.map_map]
      congr 2
      have : ((fun n : Int => UInt8.ofNat n.toNat) ∘ fun c : UInt8 => (c.toNat : Int)) = id := by
        funext c
        simp
      rw [this, List.map_id]
    rw [this]

/-- What stays of characters from a place on. -/
def kept (a b : Int) (C : List Rn) (k : Nat) : List UInt8 := ((C.drop k).filter (within a b)).map Rn.c
theorem kept_end {a b : Int} {C : List Rn} {k : Nat} (h : C.length ≤ k) : kept a b C k = [] := by
  unfold kept
  rw [List.drop_eq_nil_of_le h]
  rfl
theorem kept_in {a b : Int} {C : List Rn} {k : Nat} {r : Rn} (h : C[k]? = some r) (hw : within a b r = true) : kept a b C k = r.c :: kept a b C (k + 1) := by
  unfold kept
  rw [drop_get h, List.filter_cons, hw]
  rfl
theorem kept_out {a b : Int} {C : List Rn} {k : Nat} {r : Rn} (h : C[k]? = some r) (hw : within a b r = false) : kept a b C k = kept a b C (k + 1) := by
  unfold kept
  rw [drop_get h, List.filter_cons, hw]
  rfl

def RBackRel (W : World) (C : List Rn) (a b : Int) (o i : Value) (w : World) : Prop :=
  ∃ (k : Nat) (bs : List UInt8) (ad : Option Addr) (n cap : Nat), i = .int .i64 (k : Int) ∧ k ≤ C.length ∧ bs.length ≤ k ∧ o = .slice ad n cap ∧ n = bs.length ∧ bs ++ kept a b C k = kept a b C 0 ∧ BRow W o bs w

def TextPost (W : World) (l : List UInt8) (e : Ending) (w' : World) : Prop := e = .returned (.string ⟨l.toArray⟩) ∧ Below W.heap.size W w'

theorem rback_in {W : World} {C : List Rn} {a b : Int} {k : Nat} {bs : List UInt8} {w : World} {ad : Option Addr} {cap : Nat} {r : Rn} {i : Int} (hi : i = ((k + 1 : Nat) : Int)) (hr : C[k]? = some r) (hk : k < C.length) (hLk : bs.length ≤ k) (hw : within a b r = true) (hL : bs ++ kept a b C k = kept a b C 0) (hU : BRow W (.slice ad (bs.length + 1) cap) (bs ++ [r.c]) w) :
    RBackRel W C a b (.slice ad (bs.length + 1) cap) (.int .i64 i) w := by
  refine ⟨k + 1, bs ++ [r.c], ad, bs.length + 1, cap, by rw [hi], hk, by simp; omega, rfl, by simp, ?_, hU⟩
  rw [← hL, kept_in hr hw, List.append_assoc]
  rfl
theorem rback_out {W : World} {C : List Rn} {a b : Int} {k : Nat} {bs : List UInt8} {w : World} {ad : Option Addr} {cap : Nat} {r : Rn} {i : Int} (hi : i = ((k + 1 : Nat) : Int)) (hr : C[k]? = some r) (hk : k < C.length) (hLk : bs.length ≤ k) (hw : within a b r = false) (hL : bs ++ kept a b C k = kept a b C 0) (hU : BRow W (.slice ad bs.length cap) bs w) :
    RBackRel W C a b (.slice ad bs.length cap) (.int .i64 i) w :=
  ⟨k + 1, bs, ad, bs.length, cap, by rw [hi], hk, by omega, rfl, rfl, by rw [← kept_out hr hw]; exact hL, hU⟩

theorem within_in {a b : Int} {r : Rn} (h1 : a ≤ (r.f : Int)) (h2 : (r.t : Int) ≤ b) : within a b r = true := by simp [within, h1, h2]
theorem within_a {a b : Int} {r : Rn} (h1 : ¬ a ≤ (r.f : Int)) : within a b r = false := by simp [within, h1]
theorem within_b {a b : Int} {r : Rn} (h1 : ¬ (r.t : Int) ≤ b) : within a b r = false := by simp [within, h1]

set_option maxRecDepth 100000 in
set_option maxHeartbeats 1600000 in
theorem rBack_any (s : ByteArray) (a b : Int) (w : World) (hs : s.size ≤ 100000) : Calls Try.prog 14 #[.string s, .int .i64 a, .int .i64 b] w (TextPost w (backL s.data.toList a b)) := by
  obtain ⟨i0, hi, hz0, hz1, hz2⟩ := info_parts Try.infoByte
  have hlen := len_byte s
  have hpl := pls_len s.data.toList _ 0 (Nat.le_refl _)
  have hcl := chs_len s.data.toList _ 0 (Nat.le_refl _)
  have hsp := spL_all s.data.toList
  have hbk : kept a b (chs s.data.toList 0) 0 = backL s.data.toList a b := rfl
  obtain ⟨P, hP⟩ : ∃ P, pls s.data.toList 0 = P := ⟨_, rfl⟩
  obtain ⟨C, hC⟩ : ∃ C, chs s.data.toList 0 = C := ⟨_, rfl⟩
  rw [hP] at hpl hsp
  rw [hC] at hcl hsp hbk
  rw [hlen] at hpl hcl
  have HP := Lib.hid hP
  have HSP := Lib.hid hsp
  have HBK := Lib.hid hbk
  clear hlen hP hC hsp hbk
  go_enter Try.func14, Try.ntmps14
  go_wp2_with (go_at_call 28; (with_reducible refine (rPlain_any s _ hs).mono ?_); rw [HP.out]; rintro e w1 ⟨a1, n1, cap1, rfl, rfl, u1⟩; have U1 := Lib.hid u1; clear u1)
  go_at_call 27
  (with_reducible refine (rSpl_any U1.out (by omega)).mono ?_)
  rw [HSP.out]
  rintro e w2 ⟨a2, n, cap2, rfl, rfl, u2⟩
  have hu := Up.lower u2 U1.out.2
  obtain ⟨a', c', hv, hc1, hc2, hcell⟩ := rrow_cells (W := w) (L := C) hu
  simp only [Value.slice.injEq] at hv
  obtain ⟨rfl, -, rfl⟩ := hv
  have HC := Lib.hid hcell
  have B2 := Lib.hid hu.2
  have R0 : Up w2 5 1 (.slice none 0 0) 0 [] w2 := up_nil w2 _ 1
  have HR0 := Lib.hid R0
  unfold maxLen at hc2
  clear u2 hu hcell R0
  go_wp2
  go_loopw [8, 9] (fun o i w' => RBackRel w2 C a b o i w') (fun _ i _ => C.length - (intOf i).toNat)
  case atStart => exact ⟨0, [], none, 0, 0, rfl, Nat.zero_le _, Nat.le_refl _, rfl, rfl, rfl, HR0.out⟩
  case round =>
    obtain ⟨k, bs, ad, n, cap, rfl, hk, hLk, rfl, rfl, hL, hU⟩ := hrel
    have HU := Lib.hid hU
    have HLL := Lib.hid hL
    clear hU hL
    by_cases hlt : k < C.length
    · obtain ⟨r, hr⟩ : ∃ r, C[k]? = some r := ⟨_, List.getElem?_eq_getElem hlt⟩
      obtain ⟨g, rfl, hg, d0, d1, d2⟩ := HC.out k r hr
      have e0 := Up.cell HU.out hg d0
      have e1 := Up.cell HU.out hg d1
      have e2 := Up.cell HU.out hg d2
      have HR := Lib.hid hr
      have hki : (k : Int) < (C.length : Int) := by omega
      clear d0 d1 d2 hr
      by_cases h1 : a ≤ (r.f : Int)
      · by_cases h2 : (r.t : Int) ≤ b
        · go_wp2_with (at_builtin; refine wpList_append_ex rfl (.tmp 35) (.tmp 41) 46 rfl _ (app_up Try.underlying46 hi hz0 hz1 hz2 rfl (by decide) (by decide) (HU.out.alloc _) (src_one _ _ _) byte_one (by omega)) ?_; intro v2 w3 hu2; obtain ⟨a3, cap3, rfl, -, -, -⟩ := row_form hu2.1; have U3 := Lib.hid (BRow.push r.c hu2 rfl); clear hu2)
          go_roundw
          case rel => exact rback_in (by simp) HR.out hlt hLk (within_in h1 h2) HLL.out U3.out
          case measure => simp [intOf]; omega
        · go_wp2
          go_roundw
          case rel => exact rback_out (by simp) HR.out hlt hLk (within_b h2) HLL.out HU.out
          case measure => simp [intOf]; omega
      · go_wp2
        go_roundw
        case rel => exact rback_out (by simp) HR.out hlt hLk (within_a h1) HLL.out HU.out
        case measure => simp [intOf]; omega
    · have hki : ¬ (k : Int) < (C.length : Int) := by omega
      have ht := brow_text HU.out
      go_wp2
      go_ret
      have h3 := HLL.out
      rw [kept_end (by omega : C.length ≤ k), List.append_nil, HBK.out] at h3
      rw [← h3]
      exact ⟨rfl, B2.out.trans (HU.out.2.mono B2.out.size)⟩

end Go.Proofs.Ytpnboieppkjfnaa
