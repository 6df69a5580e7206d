/-
  cutAt, whole.
-/
import Derived.Test.YtfjdfdpelilelaaDoorCutR
namespace Go.Proofs.YtfjdfdpelilelaaDoor
open Go.RowKit

theorem cut_all {B : Nat} : ∀ n, CBelow B n := by
  intro n
  induction n with
  | zero => intro t hn; omega
  | succ n ih =>
  intro t hn M w h b hb k hk
  cases t with
  | leaf s =>
    refine (cut_leaf h hb k hk).mono ?_
    rintro e w' ⟨oa, ob, hd, tl, pa, pb, M', he, qa, qb, x1, x2, hq, s⟩
    exact ⟨oa, ob, hd, tl, pa, pb, M', he, qa, qb, x1, x2, fun _ => hq trivial, s⟩
  | node l r =>
    have ih' : CBelow B (T.node l r).nn := fun u hu => ih u (by omega)
    have key : Calls Tryd.prog 86 #[.pointer (some ⟨b, 0, none⟩), .int .i64 (k : Int)] w (CutMade B M w (l.text ++ r.text) k False) := by
      by_cases hlt : k < l.size
      · exact cut_node_left h hb ih' k hlt
      · exact cut_node_right h hb ih' k (by omega) hk
    refine key.mono ?_
    rintro e w' ⟨oa, ob, hd, tl, pa, pb, M', he, qa, qb, x1, x2, -, s⟩
    exact ⟨oa, ob, hd, tl, pa, pb, M', he, qa, qb, x1, x2, fun h => by simp [isLeafB] at h, s⟩

theorem cut_any {B : Nat} {M : Mp} {w : World} (h : Inv B [] M w) {p : Option Addr} {o : Option T} (hp : PT M p o) (k : Nat) (hk : k ≤ osize o) :
    Calls Tryd.prog 86 #[.pointer p, .int .i64 (k : Int)] w (CutMade B M w (otext o) k (odepth o ≤ 1)) := by
  rcases hp with ⟨rfl, rfl⟩ | ⟨b, t, rfl, rfl, hb⟩
  · have bel : Below w.heap.size w (w.alloc zeroCut) := (Below.refl _ w).alloc (Nat.le_refl _) _
    have S0 := Lib.hid (St.below h bel)
    clear h bel hk
    go_enter Tryd.func86, Tryd.ntmps86
    go_wp2
    refine bodyPost_ret (v := .agg #[.pointer none, .pointer none, .string ⟨#[]⟩, .string ⟨#[]⟩]) (by simp [results, Tryd.results86, go_sem]) rfl ?_
    exact ⟨none, none, ⟨#[]⟩, ⟨#[]⟩, none, none, M, rfl, .inl ⟨rfl, rfl⟩, .inl ⟨rfl, rfl⟩, by simp [otext], by simp [otext], fun _ => ⟨rfl, rfl⟩, S0.out⟩
  · refine (cut_all (t.nn + 1) t (by omega) M w h b hb k hk).mono ?_
    rintro e w' ⟨oa, ob, hd, tl, pa, pb, M', he, qa, qb, x1, x2, hq, s⟩
    refine ⟨oa, ob, hd, tl, pa, pb, M', he, qa, qb, x1, x2, fun hd => hq ?_, s⟩
    cases t with
    | leaf _ => rfl
    | node l r =>
      have := l.depth_pos
      simp only [odepth, T.depth] at hd
      omega

end Go.Proofs.YtfjdfdpelilelaaDoor
