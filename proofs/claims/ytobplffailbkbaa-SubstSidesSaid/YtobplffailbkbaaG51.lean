/-
  Texts of the proof, put together: SuSe.
-/
import Derived.Test.YtobplffailbkbaaG49
import Derived.Test.YtobplffailbkbaaG50

/-
  SubstSides: what its body becomes, in memory.
-/
namespace Go.Proofs.Ytobplffailbkbaa
open Go.RowKit Go.Maps

/-- What the body of SubstSides becomes. -/
def SideOut (W : World) (a b : Nat) (e : Ending) (w' : World) : Prop := ∃ g o lc f fc da dc, e = .returned (.tuple #[.slice (some ⟨g, o, none⟩) (sdN a b + 2) lc, .slice (some ⟨f, 0, none⟩) (sdN a b + 2) fc, .slice da 0 dc]) ∧ g < w'.heap.size ∧ f < w'.heap.size ∧ sdN a b + 2 ≤ lc ∧ lc ≤ maxLen ∧ sdN a b + 2 ≤ fc ∧ fc ≤ maxLen ∧ w'.cell? ⟨g, o + 1, none⟩ = some (.string ⟨#[91]⟩) ∧ w'.cell? ⟨g, o + (sdN a b + 1) * 8 + 1, none⟩ = some (.string ⟨#[93]⟩) ∧
  (∀ i, i < sdN a b → w'.cell? ⟨f, i + 1, none⟩ = some (.int .i64 (sdW a b i).2.2) ∧ ∃ t sa sn sc, t.x = ⟨(sdW a b i).1.toArray⟩ ∧ t.d = (sdW a b i).2.1 ∧ TokX t (.slice sa sn sc) g (o + (i + 1) * 8) w') ∧ Below W.heap.size W w'
theorem txt_of {s : ByteArray} {l : List UInt8} (h : s.data.toList = l) : s = ⟨l.toArray⟩ := by
  apply ByteArray.ext
  rw [← h]
theorem sd_is {a b : Nat} (ha : a < 11) (hb : b < 11) : (bodyL sdM [sdL 120 a, sdL 121 b] [] [sdS]).1.length = sdN a b + 2 ∧ (bodyL sdM [sdL 120 a, sdL 121 b] [] [sdS]).2.1.length = sdN a b + 2 ∧ (bodyL sdM [sdL 120 a, sdL 121 b] [] [sdS]).2.2 = [] ∧
    (∃ t, (bodyL sdM [sdL 120 a, sdL 121 b] [] [sdS]).1[0]? = some t ∧ t.x = ⟨#[91]⟩) ∧ (∃ t, (bodyL sdM [sdL 120 a, sdL 121 b] [] [sdS]).1[sdN a b + 1]? = some t ∧ t.x = ⟨#[93]⟩) ∧
    ∀ i, i < sdN a b → (∃ t, (bodyL sdM [sdL 120 a, sdL 121 b] [] [sdS]).1[i + 1]? = some t ∧ t.x = ⟨(sdW a b i).1.toArray⟩ ∧ t.d = (sdW a b i).2.1) ∧ (bodyL sdM [sdL 120 a, sdL 121 b] [] [sdS]).2.1[i + 1]? = some (sdW a b i).2.2 := by
  have h : sdB a b = true := sd_all ⟨a, ha⟩ ⟨b, hb⟩
  obtain ⟨R, hR⟩ : ∃ R, bodyL sdM [sdL 120 a, sdL 121 b] [] [sdS] = R := ⟨_, rfl⟩
  unfold sdB at h
  rw [hR] at h ⊢
  clear hR
  simp only [Bool.and_eq_true, decide_eq_true_eq, beq_iff_eq, List.isEmpty_iff, List.all_eq_true, List.mem_range, Option.map_eq_some_iff, Prod.mk.injEq] at h
  obtain ⟨⟨⟨⟨⟨h1, h2⟩, h3⟩, t0, h4, h5⟩, t1, h6, h7⟩, h8⟩ := h
  refine ⟨h1, h2, h3, ⟨t0, h4, txt_of h5⟩, ⟨t1, h6, txt_of h7⟩, fun i hi => ?_⟩
  obtain ⟨⟨t, k1, k2, k3⟩, k4⟩ := h8 i hi
  exact ⟨⟨t, k1, txt_of k2, k3⟩, k4⟩
theorem side_body {W : World} {a b : Nat} (ha : a < 11) (hb : b < 11) {pv bv rv : Value} (hm : MacAt sdM pv bv W) (hr : RowsX [sdL 120 a, sdL 121 b] rv W) : Calls Try.prog 14 #[macV sdM pv bv, rv, .slice none 0 0, siteV sdS, .slice none 0 0] W (SideOut W a b) := by
  obtain ⟨f1, f2, f3, f4⟩ := sd_fit ⟨a, ha⟩ ⟨b, hb⟩
  obtain ⟨k1, k2, k3⟩ := sd_ok ⟨a, ha⟩ ⟨b, hb⟩
  have hin : BodyIn W sdM [sdL 120 a, sdL 121 b] [] pv bv rv (.slice none 0 0) := ⟨hm, hr, rowsX_nil W, ⟨by decide +kernel, by decide +kernel⟩, by decide +kernel, ⟨by simp, k1, k2, k3⟩, ⟨by simp, by simp, by simp, by simp⟩⟩
  refine (body_any hin sdS ⟨f1, f2, f3, f4⟩).mono fun e w' h => ?_
  obtain ⟨V, la, n, lc, fa, fc, da, dc, he, hn, hx, hi, -, hB⟩ := h
  obtain ⟨r1, r2, r3, ⟨t0, r4, r5⟩, ⟨t1, r6, r7⟩, r8⟩ := sd_is ha hb
  obtain ⟨R, hR⟩ : ∃ R, bodyL sdM [sdL 120 a, sdL 121 b] [] [sdS] = R := ⟨_, rfl⟩
  rw [hR] at he hn hx hi r1 r2 r3 r4 r6 r8
  clear hR
  obtain ⟨L, F, D⟩ := R
  simp only at he hn hx hi r1 r2 r3 r4 r6 r8
  subst r3
  obtain ⟨g, o, sa0, sn0, sc0, rfl, hg, -, hc0, -⟩ := hx.get r4
  obtain ⟨g', o', sa1, sn1, sc1, hga, -, -, hc1, -⟩ := hx.get r6
  simp only [Option.some.injEq, Addr.mk.injEq, and_true] at hga
  obtain ⟨rfl, rfl⟩ := hga
  unfold IR at hi
  obtain ⟨fa', fc', hv, q1, q2, q3⟩ := row_form hi
  simp only [Value.slice.injEq, true_and] at hv
  obtain ⟨rfl, rfl⟩ := hv
  obtain ⟨x0, hx0⟩ : ∃ x, F[0]? = some x := ⟨_, List.getElem?_eq_getElem (by omega)⟩
  have hic : ∀ {k : Nat} {x : Int}, F[k]? = some x → (icells F)[k]? = some (.int .i64 x) := fun {k x} hk => by
    unfold icells
    simp [hk]
  obtain ⟨f, rfl, hf, -⟩ := q3 0 _ (hic hx0)
  obtain ⟨-, l1, l2⟩ := hx.len
  subst hn
  rw [r1] at l1
  rw [r1, r2] at he
  refine ⟨g, o, lc, f, fc, da, dc, he, hg, hf, l1, l2, by omega, q2, ?_, ?_, fun i hi => ?_, hB⟩
  · have := hc0.2.1
    rw [r5, show o + 0 * 8 + 1 = o + 1 from by omega] at this
    exact this
  · have := hc1.2.1
    rw [r7] at this
    exact this
  · obtain ⟨⟨t, m1, m2, m3⟩, m4⟩ := r8 i hi
    obtain ⟨f', hfa, -, hfc⟩ := q3 (i + 1) _ (hic m4)
    simp only [Option.some.injEq, Addr.mk.injEq, and_true] at hfa
    subst hfa
    obtain ⟨g', o', sa, sn, sc, hga, -, -, hct, -⟩ := hx.get m1
    simp only [Option.some.injEq, Addr.mk.injEq, and_true] at hga
    obtain ⟨rfl, rfl⟩ := hga
    exact ⟨hfc, t, _, _, _, m2, m3, hct⟩

end Go.Proofs.Ytobplffailbkbaa
