/-
  Texts of the proof, put together: DkTC.
-/
import Derived.Test.YtkmlnccdldmmpaaDoorG24

/-
  tokens.Clone, walked.
-/
namespace Go.Proofs.YtkmlnccdldmmpaaDoor
open Go.RowKit

set_option maxRecDepth 100000 in
set_option maxHeartbeats 3200000 in
theorem tclone_any {T : List Xt} {a : Option Addr} {n c : Nat} {w : World} (h : ToksX T (.slice a n c) w) (hT : T.length ≤ 500000) (hS : ∀ t ∈ T, t.ss.length ≤ 500000) :
    Calls Tryd.prog 41 #[.slice a n c] w (ToksNew w T) := by
  have hn := h.len.1
  have HN := Lib.hid hn
  have HCL := Lib.hid (cloneToks_any h hT)
  have HS := Lib.hid hS
  have hn5 : n ≤ 500000 := by omega
  clear h hn hS hT
  go_enter Tryd.func41, Tryd.ntmps41
  go_wp2_with (go_at_call 59; (with_reducible refine (HCL.out).mono ?_); rintro e w3 ⟨a3, c3, P0, rfl, h3⟩; have H3 := Lib.hid h3; clear h3)
  clear HCL
  go_loopw [9] (fun s wr => ∃ (k : Nat) (P : List (Xt × Value)), s = .int .i64 (k : Int) ∧ k ≤ n ∧ ClT w T a3 n c3 P wr) (fun s _ => n - (intOf s).toNat)
  case atStart => exact ⟨0, P0, rfl, Nat.zero_le _, H3.out⟩
  case round =>
    obtain ⟨k, P, rfl, hk, hC⟩ := hrel
    have HC := Lib.hid hC
    by_cases hlt : k < n
    · have hPl : P.length = n := by rw [HN.out, ← hC.map, List.length_map]
      obtain ⟨⟨t, sv⟩, hp⟩ : ∃ p, P[k]? = some p := ⟨_, List.getElem?_eq_getElem (by omega)⟩
      obtain ⟨sa, sn, sc, hv, -⟩ := (hC.sits _ (List.mem_of_getElem? hp)).form
      simp only at hv
      subst hv
      have hst := hC.sits _ (List.mem_of_getElem? hp)
      simp only at hst
      have htT : t ∈ T := by rw [← hC.map]; exact List.mem_map.2 ⟨_, List.mem_of_getElem? hp, rfl⟩
      obtain ⟨a4, c4, hv4, hc1, hc2, hcell⟩ := row_form hC.up.1
      simp only [Value.slice.injEq, true_and] at hv4
      obtain ⟨rfl, rfl⟩ := hv4
      have hg := fun j (hj : j < 8) => flat_get (f := xcell) (n := 8) (fun _ => rfl) P k _ hp j hj
      obtain ⟨rg, rfl, hrg, k0⟩ := hcell (k * 8 + 0) _ ((hg 0 (by omega)).trans rfl)
      have hkc : ∀ j u, j < 8 → (xcell (t, .slice sa sn sc))[j]? = some u → wr.cell? ⟨rg, k * 8 + j, none⟩ = some u := by
        intro j u hj hu
        obtain ⟨g', hg', -, e⟩ := hcell (k * 8 + j) u ((hg j hj).trans hu)
        simp only [Option.some.injEq, Addr.mk.injEq, and_true] at hg'
        rw [hg']
        exact e
      have e0 : wr.cell? ⟨rg, k * 8, none⟩ = some (.int .i64 t.k) := k0
      have e1 : wr.cell? ⟨rg, k * 8 + 1, none⟩ = some (.string t.x) := hkc 1 _ (by omega) rfl
      have e2 : wr.cell? ⟨rg, k * 8 + 2, none⟩ = some (.bool t.sp) := hkc 2 _ (by omega) rfl
      have e3 : wr.cell? ⟨rg, k * 8 + 3, none⟩ = some (.string t.g) := hkc 3 _ (by omega) rfl
      have e4 : wr.cell? ⟨rg, k * 8 + 4, none⟩ = some (.int .i64 t.f) := hkc 4 _ (by omega) rfl
      have e5 : wr.cell? ⟨rg, k * 8 + 5, none⟩ = some (.int .i64 t.t) := hkc 5 _ (by omega) rfl
      have e6 : wr.cell? ⟨rg, k * 8 + 6, none⟩ = some (.bool t.d) := hkc 6 _ (by omega) rfl
      have e7 : wr.cell? ⟨rg, k * 8 + 7, none⟩ = some (.slice sa sn sc) := hkc 7 _ (by omega) rfl
      have HE7 := Lib.hid e7
      have HFZ := Lib.hid (own_freeX hC.up.1)
      have hkI : (k : Int) < (n : Int) := by omega
      have hk0 : (0 : Int) ≤ (k : Int) := by omega
      have HP := Lib.hid hp
      have HRG := Lib.hid hrg
      have HSC : Hid (∀ X : World, Below wr.heap.size wr X → Calls Tryd.prog 60 #[.slice sa sn sc] X (SitsNew X t.ss)) := Lib.hid (fun X hX => cloneSits_any (hst.over hX) (HS.out t htT))
      unfold maxLen at hc2
      clear hC hPl hst htT hcell hg k0 hkc hp hrg
      go_wp2_with (go_at_call 60; (with_reducible refine (HSC.out _ ((Below.refl _ _).alloc (Nat.le_refl _) _)).mono ?_); rintro e w4 ⟨na, nn, nc, rfl, hs4, hb4, ho4⟩; have HB4 : Hid (Below wr.heap.size wr w4) := Lib.hid (below_up ((Below.refl wr.heap.size wr).alloc (Nat.le_refl _) _) hb4); have HS4 := Lib.hid hs4; have HO4 : Hid (OffG rg (.slice na nn nc)) := Lib.hid (ho4 rg (by have := HRG.out; simp; omega)); have q7 : w4.cell? ⟨rg, k * 8 + 7, none⟩ = some (.slice sa sn sc) := (bcell HB4.out HE7.out HRG.out); have z7 : w4.frozen? ⟨rg, k * 8 + 7, none⟩ = false := (HB4.out.frozen (p := ⟨rg, k * 8 + 7, none⟩) HRG.out).trans (HFZ.out _); clear hs4 hb4 ho4)
      have HNX := Lib.hid ((HC.out.over HB4.out).put HP.out HS4.out HO4.out)
      go_roundw
      case rel => exact ⟨k + 1, _, by go_num, hlt, HNX.out⟩
      case measure => simp [intOf]; omega
    · have hkI : ¬ (k : Int) < (n : Int) := by omega
      go_wp2
      go_ret
      exact ⟨a3, n, c3, rfl, HN.out, hC.toks, hC.up.2⟩

end Go.Proofs.YtkmlnccdldmmpaaDoor
