/-
  lineBreaks, whole: by induction on the tree.
-/
import Derived.Test.YthpgjcoccdeklaaBreaks
namespace Go.Proofs.Ythpgjcoccdeklaa
open Go.RowKit

/-- Behind Do: the node is counted and free again. -/
theorem once_fin {B : Nat} {L : List Nat} {M : Mp} {w w1 : World} {b : Nat} {t : T} {e : Ending} {w' : World} (hb : M b = some t) (hbL : b ∉ L) (f : Fr M w w1)
    (h : OncePost b (Counted B L M w1 b t) e w') : e = .returned (.tuple #[]) ∧ Inv B L M w' ∧ Fr M w w' ∧ w'.cell? ⟨b, 8, none⟩ = some (.int .i64 (t.nl : Int)) := by
  obtain ⟨rfl, w2, ⟨i2, f2, lp, rp, q, hh, hk⟩, rfl⟩ := h
  have hh' : w2.drew.heap[b]? = some (nodeObj lp rp t 0 1 q (t.nl : Int)) := hh
  have h5 := node_set5 hh' 1
  have h6 := node_set6 h5 0
  refine ⟨rfl, ?_, ?_, (node_cells h6).2.2.2.2.2⟩
  · refine i2.drew.turn hb ?_ (fun k hk' => ?_) h6 hk (fun k hk' => by simp [hk']) (fun x => absurd x hbL) (fun _ => ⟨rfl, .inr ⟨rfl, rfl⟩⟩)
    · rw [heap_set_size, heap_set_size]
    · rw [Below.heap_setCell _ _ _ _ hk', Below.heap_setCell _ _ _ _ hk']
  · have g := (f.trans f2 (fun _ _ => rfl)).drew
    exact (g.trans (Fr.setUpper hb (by omega) _) (fun _ _ => rfl)).trans (Fr.setUpper hb (by omega) _) (fun _ _ => rfl)

/-- The lock is taken. -/
theorem Inv.lock {B : Nat} {L : List Nat} {M : Mp} {w : World} (h : Inv B L M w) {b : Nat} {t : T} (hb : M b = some t) {lp rp : Option Addr} {q br : Int} (hh : w.heap[b]? = some (nodeObj lp rp t 0 0 q br)) (hk : kids M t lp rp) :
    Inv B (b :: L) M (w.setCell ⟨b, 6, none⟩ (.int .i32 1)) :=
  h.turn hb (heap_set_size _ _ _) (fun _ hk' => Below.heap_setCell _ _ _ _ hk') (node_set6 hh 1) hk (fun k hk' => by simp [hk']) (fun _ => ⟨rfl, rfl⟩) (fun x => absurd (List.mem_cons_self ..) x)

set_option maxHeartbeats 1600000 in
theorem lineBreaks_all {B : Nat} {M : Mp} : ∀ n, LBelow B M n := by
  intro n
  induction n with
  | zero => intro t L w b hn; omega
  | succ n ih =>
  intro t L w b hn h hb hL
  have hbL : b ∉ L := fun x => by
    obtain ⟨u, h1, h2⟩ := hL b x
    rw [hb] at h1
    cases h1
    omega
  have hmf : ∀ (fn : Fn) (first cap : Array Value) (w : World), (Instr.makeFunc fn first cap).run Try.prog w = .ok (.func fn first cap) w := fun _ _ _ _ => rfl
  have hbw := h.lt hb
  -- the world in which Do is called
  have bel : Below w.heap.size w (w.alloc (.cells #[.pointer (some ⟨b, 0, none⟩)] 43)) := (Below.refl _ w).alloc (Nat.le_refl _) _
  have i1 := h.below bel
  have f1 : Fr M w (w.alloc (.cells #[.pointer (some ⟨b, 0, none⟩)] 43)) := Fr.of_below bel
  have hpn : M w.heap.size = none := h.gone (Nat.le_refl _)
  have hp : (w.alloc (.cells #[.pointer (some ⟨b, 0, none⟩)] 43)).heap[w.heap.size]? = some (.cells #[.pointer (some ⟨b, 0, none⟩)] 43 (0, 0)) := heap_alloc_new w _
  obtain ⟨lp, rp, d, st, q, br, hh, hk, _, hout⟩ := i1.node b t hb
  obtain ⟨rfl, hd⟩ := hout hbL
  obtain ⟨_, _, _, c5, c6, c8⟩ := node_cells hh
  rcases hd with rfl | ⟨rfl, rfl⟩
  · have iL := i1.lock hb hh hk
    have hp' : ((w.alloc (.cells #[.pointer (some ⟨b, 0, none⟩)] 43)).setCell ⟨b, 6, none⟩ (.int .i32 1)).heap[w.heap.size]? = some (.cells #[.pointer (some ⟨b, 0, none⟩)] 43 (0, 0)) := by
      rw [Below.heap_setCell _ _ _ _ (by simp; omega)]
      exact hp
    have hcl : Calls Try.prog 40 #[.pointer (some ⟨w.heap.size, 0, none⟩)] ((w.alloc (.cells #[.pointer (some ⟨b, 0, none⟩)] 43)).setCell ⟨b, 6, none⟩ (.int .i32 1)) (ClosurePost b (Counted B L M ((w.alloc (.cells #[.pointer (some ⟨b, 0, none⟩)] 43)).setCell ⟨b, 6, none⟩ (.int .i32 1)) b t)) := by
      cases t with
      | leaf s => exact closure_leaf iL hb hp'
      | node l r =>
        refine closure_node (fun u L' w' b' hu => ih u L' w' b' (by omega)) hL iL hb hpn hp'
    have fl : Fr M (w.alloc (.cells #[.pointer (some ⟨b, 0, none⟩)] 43)) ((w.alloc (.cells #[.pointer (some ⟨b, 0, none⟩)] 43)).setCell ⟨b, 6, none⟩ (.int .i32 1)) := Fr.setUpper hb (by omega) _
    have hlt : w.heap.size < (w.alloc (.cells #[.pointer (some ⟨b, 0, none⟩)] 43)).heap.size := by simp
    have cbox : (w.alloc (.cells #[.pointer (some ⟨b, 0, none⟩)] 43)).cell? ⟨w.heap.size, 0, none⟩ = some (.pointer (some ⟨b, 0, none⟩)) := by rw [Lib.cell_of_heap hp]; rfl
    have z6 := node_free hh 6
    have HC := Lib.hid hcl
    have HF := Lib.hid fl
    have HB := Lib.hid hb
    have HN := Lib.hid hbL
    have F1 := Lib.hid f1
    have PN := Lib.hid hpn
    have CB := Lib.hid cbox
    have HL := Lib.hid hlt
    clear cbox hlt hcl fl hb hbL hL ih hn h bel i1 f1 hpn hp hh hk hout c8 iL hp'
    go_enter Try.func27, Try.ntmps27
    go_wp2_with (go_at_call 39; refine (do_first b ⟨w.heap.size, 0, none⟩ _ _ c5 c6 z6 HC.out).mono ?_; intro e w' hq; obtain ⟨rfl, iz, fz, cz⟩ := once_fin HB.out HN.out HF.out hq; have cbz := (fz.cell HL.out PN.out).trans CB.out; have IZ := Lib.hid iz; have FZ := Lib.hid (F1.out.trans fz (fun _ _ => rfl)); clear iz fz hq)
    go_ret
    exact ⟨rfl, IZ.out, FZ.out⟩
  · have I1 := Lib.hid i1
    have F1 := Lib.hid f1
    clear hb hbL hL ih hn h bel i1 f1 hpn hp hh hk hout
    go_enter Try.func27, Try.ntmps27
    go_wp2_with (go_at_call 39; refine (do_done ⟨b, 5, none⟩ _ _ c5).mono ?_; rintro e w' ⟨rfl, rfl⟩)
    go_ret
    exact ⟨rfl, I1.out, F1.out⟩

theorem lineBreaks_any {B : Nat} {M : Mp} {w : World} (h : Inv B [] M w) {p : Option Addr} {o : Option T} (hp : PT M p o) :
    Calls Try.prog 27 #[.pointer p] w fun e w' => e = .returned (.int .i64 ((otext o).count 10 : Nat)) ∧ St B M w M w' := by
  rcases hp with ⟨rfl, rfl⟩ | ⟨b, t, rfl, rfl, hb⟩
  · have bel : Below w.heap.size w (w.alloc (.cells #[.pointer none] 43)) := (Below.refl _ w).alloc (Nat.le_refl _) _
    have S := Lib.hid (St.below h bel)
    clear h bel
    go_enter Try.func27, Try.ntmps27
    go_wp2
    go_ret
    exact ⟨rfl, S.out⟩
  · refine (lineBreaks_all (t.nn + 1) t [] w b (by omega) h hb (fun k hk => by cases hk)).mono ?_
    rintro e w' ⟨rfl, hi, hf⟩
    exact ⟨rfl, hi, fun _ _ => rfl, hf⟩

end Go.Proofs.Ythpgjcoccdeklaa
