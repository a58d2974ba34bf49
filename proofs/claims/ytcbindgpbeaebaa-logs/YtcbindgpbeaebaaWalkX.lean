import Derived.Test.YtcbindgpbeaebaaWalkV
import Derived.Test.YtcbindgpbeaebaaPureI
namespace Go.Proofs.Ytcbindgpbeaebaa
open Go.RowKit Go.Deep
attribute [local go_sem ↓] Go.wp_at_zero Go.wp_at_succ

/-- A block of a type that is none of a disk's stays. -/
theorem DAt.keep {w w' : World} {bd bs : Nat} {lv lv' : Value} {d : Dk} (h : DAt w bd bs lv d) (st : DStep bd bs lv lv' w w') {k : Nat} {cs : Array Value} {t : TypeId} {fr : Nat × Nat} (hk : w.heap[k]? = some (.cells cs t fr))
    (h2 : t ≠ 55) (h3 : t ≠ 9) (h5 : t ≠ 70) : w'.heap[k]? = some (.cells cs t fr) := by
  obtain ⟨cur, hbs, _⟩ := h.sb
  exact (st.block k (lt_of_heap hk) (blk_ne hk h.own h2) (blk_ne hk hbs h3) (ownsRow_ne h.late hk (Ne.symm h5))).trans hk
theorem RAt.keepD {w w' : World} {C bd bs : Nat} {lv lv' : Value} {d : Dk} {R : Rf} {sv rv : Value} (hr : RAt C w R sv rv) (h : DAt w bd bs lv d) (st : DStep bd bs lv lv' w w') : RAt C w' R sv rv := by
  refine ⟨ownsRow_kept hr.sure fun g hg => ?_, ownsRow_kept hr.put fun g hg => ?_, hr.sl, hr.pl⟩
  · obtain ⟨cur, hc⟩ := ownsRow_blk hr.sure hg
    rw [h.keep st hc (by decide) (by decide) (by decide), hc]
  · obtain ⟨cur, hc⟩ := ownsRow_blk hr.put hg
    rw [h.keep st hc (by decide) (by decide) (by decide), hc]
theorem DAt.setOther {w : World} {bd bs : Nat} {lv : Value} {d : Dk} (h : DAt w bd bs lv d) {k : Nat} {cs : Array Value} {t : TypeId} {fr : Nat × Nat} (hk : w.heap[k]? = some (.cells cs t fr)) (h2 : t ≠ 55) (h3 : t ≠ 9) (h5 : t ≠ 70) (i : Nat) (u : Value) : DAt (w.setCell ⟨k, i, none⟩ u) bd bs lv d := by
  obtain ⟨cur, hbs, _⟩ := h.sb
  refine h.kept fun q _ e => Below.heap_setCell _ _ _ _ ?_
  rcases e with rfl | rfl | e
  · exact blk_ne h.own hk (Ne.symm h2)
  · exact blk_ne hbs hk (Ne.symm h3)
  · intro e'
    simp only at e'
    subst e'
    exact ownsRow_ne h.late hk (Ne.symm h5) e

set_option maxRecDepth 100000 in
set_option maxHeartbeats 6400000 in
theorem opens_fail (w : World) (B bw bd bs : Nat) (xv lv : Value) (d : Dk) (R R2 : Rf) (sv rv sv2 rv2 : Value) (tw br : Bool) (X : Dk → Prop) (h : DAt w bd bs lv d)
    (hw : w.heap[bw]? = some (.cells (wcells bd xv R R2 sv rv sv2 rv2 tw br) 32 (0, 0))) (hB : B ≤ w.heap.size) (hBw : B ≤ bw) (hr : RAt B w R sv rv) (hr2 : RAt B w R2 sv2 rv2)
    (ok : d.Ok) (hs : 90 < d.safe.length) (hll : d.late.length ≤ 800000)
    (hop : ∀ c, ∃ psR, psR.length ≤ 80 ∧ (∀ p ∈ psR, 90 + p.1 < d.safe.length) ∧ (({ d with cap := c } : Dk).flush.1 = true → Tells (({ d with cap := c } : Dk).flush.2.read 0) psR) ∧ (∀ p ∈ inRoom ({ d with cap := c } : Dk).flush.2 0 psR, p.2.size ≤ 256) ∧ (({ d with cap := c } : Dk).redo psR).1 = false ∧ (d.failed < (({ d with cap := c } : Dk).redo psR).2.failed ∨ (({ d with cap := c } : Dk).redo psR).2.life = 0) ∧ (({ d with cap := c } : Dk).redo psR).2.safe.length = d.safe.length ∧ X (({ d with cap := c } : Dk).redo psR).2) :
    Calls Try.prog 19 #[.pointer (some ⟨bw, 0, none⟩)] w fun e w' => ∃ D bd' bs' lv', e = .returned (.bool true) ∧ X D ∧ DAt w' bd' bs' lv' D ∧
      w'.heap[bw]? = some (.cells (wcells bd' (.pointer none) R R2 sv rv sv2 rv2 tw br) 32 (0, 0)) ∧ RAt B w' R sv rv ∧ RAt B w' R2 sv2 rv2 ∧ Below B w w' ∧ B ≤ bd' ∧ B ≤ bs' ∧ ∀ g, lv'.ownBlock = some g → B ≤ g := by
  obtain ⟨⟨x0, x1, x2, x3, x4, x5, x6, x7, x8, x9⟩, xz⟩ := wcell hw
  have hn := ok.n
  have HW := hide hw
  have HOP := hide hop
  clear hw hop x2 x3 x4 x5 x6 x7 x8 x9
  go_enter Try.func19, Try.ntmps19
  go_wp2_with fail
  refine (copy_any w bd bs lv d h (by omega) hn (by omega)).mono ?_
  rintro e w1 ⟨bs1, lv1, c, rfl, d1, b1, lb1, lv1b⟩
  obtain ⟨psR, o1, o2, o3, o4, o5, o6, o7, o8⟩ := (unhide HOP) c
  have h1 := (b1.block bw (lt_of_heap (unhide HW))).trans (unhide HW)
  obtain ⟨⟨y0, y1, _, _, _, _, _, _, _, _⟩, yz⟩ := wcell h1
  have dA := (d1.setOther h1 (by decide) (by decide) (by decide) 0 (.pointer (some ⟨w.heap.size, 0, none⟩)))
  have hA := heap_setCell_same w1 bw 0 _ _ (.pointer (some ⟨w.heap.size, 0, none⟩)) h1
  have dB := dA.setOther hA (by decide) (by decide) (by decide) 1 (.pointer none)
  have hBk := heap_setCell_same _ bw 1 _ _ (.pointer none) hA
  have rA := ((hr.below b1).setOther h1 (by decide) 0 (.pointer (some ⟨w.heap.size, 0, none⟩))).setOther hA (by decide) 1 (.pointer none)
  have rA2 := ((hr2.below b1).setOther h1 (by decide) 0 (.pointer (some ⟨w.heap.size, 0, none⟩))).setOther hA (by decide) 1 (.pointer none)
  have bB := ((b1.mono hB).setCell hBw (.pointer (some ⟨w.heap.size, 0, none⟩)) (p := ⟨bw, 0, none⟩)).setCell hBw (.pointer none) (p := ⟨bw, 1, none⟩)
  have szB : ((w1.setCell ⟨bw, 0, none⟩ (.pointer (some ⟨w.heap.size, 0, none⟩))).setCell ⟨bw, 1, none⟩ (.pointer none)).heap.size = w1.heap.size := by simp [World.setCell]
  have s01 := b1.size
  have HDB := hide dB
  have HBK := hide hBk
  have HRA := hide rA
  have HRA2 := hide rA2
  have HBB := hide bB
  have HSZ := hide szB
  have HO3 := hide o3
  have HO4 := hide o4
  have HO5 := hide o5
  have HO6 := hide o6
  have HO7 := hide o7
  have HO8 := hide o8
  clear dA hA dB hBk rA rA2 bB szB o3 o4 o5 o6 o7 o8 h1 d1 b1 x0 x1 xz
  go_wp2_with fail
  generalize hWB : (w1.setCell ⟨bw, 0, none⟩ (.pointer (some ⟨w.heap.size, 0, none⟩))).setCell ⟨bw, 1, none⟩ (.pointer none) = wB at HDB HBK HRA HRA2 HBB HSZ ⊢
  clear hWB
  have hK : wB.heap[bw]? = some (.cells (wcells w.heap.size (.pointer none) R R2 sv rv sv2 rv2 tw br) 32 (0, 0)) := by rw [unhide HBK]; rfl
  obtain ⟨⟨z0, z1, _, _, _, _, _, _, _, _⟩, zz⟩ := wcell hK
  have HK := hide hK
  clear hK y0 y1 yz HBK
  refine (dead_any wB w.heap.size bs1 lv1 { d with cap := c } (unhide HDB)).mono ?_
  rintro e w2 ⟨rfl, hw2⟩
  have hw2 := hw2.symm
  subst hw2
  simp only
  go_wp2_with fail
  refine (failed_any wB w.heap.size bs1 lv1 { d with cap := c } (unhide HDB)).mono ?_
  rintro e w2 ⟨rfl, hw2⟩
  have hw2 := hw2.symm
  subst hw2
  simp only
  go_wp2_with fail
  refine (open_any wB B w.heap.size bs1 lv1 { d with cap := c } psR (unhide HDB) (by rw [unhide HSZ]; omega) hB (by omega) (fun g hg => by have := lv1b g hg; omega) ⟨ok.w0, ok.w1, ok.l0, ok.l1, ok.f0, ok.f1, ok.n, ok.lt⟩ hs (by show d.late.length ≤ _; omega) (unhide HO3) o1 o2 (unhide HO4)).mono ?_
  rintro e w3 ⟨lv3, st3, b3, _, ho⟩
  obtain ⟨he, d3, _⟩ := ho (unhide HO5)
  subst he
  have h3 := (unhide HDB).keep st3 (unhide HK) (by decide) (by decide) (by decide)
  have r3 := (unhide HRA).keepD (unhide HDB) st3
  have r32 := (unhide HRA2).keepD (unhide HDB) st3
  have b03 := (unhide HBB).trans b3
  have fr3 : ∀ g, lv3.ownBlock = some g → B ≤ g := fun g hg => by
    rcases st3.fresh g hg with e | e
    · have := lv1b g e; omega
    · rw [unhide HSZ] at e; omega
  obtain ⟨⟨q0, q1, _, _, _, _, _, _, _, _⟩, qz⟩ := wcell h3
  have H3 := hide h3
  have HD3 := hide d3
  have HR3 := hide r3
  have HR32 := hide r32
  have HB3 := hide b03
  have HFR := hide fr3
  clear h3 d3 r3 r32 b03 fr3 ho b3 st3 z0 z1 zz
  generalize hD : (({ d with cap := c } : Dk).redo psR).2 = D at HD3 HO6 HO7 HO8
  clear hD
  go_wp2_with fail
  refine (failed_any w3 w.heap.size bs1 lv3 D (unhide HD3)).mono ?_
  rintro e w4 ⟨rfl, hw4⟩
  have hw4 := hw4.symm
  subst hw4
  go_wp2_with fail
  refine (dead_any w3 w.heap.size bs1 lv3 D (unhide HD3)).mono ?_
  rintro e w4 ⟨rfl, hw4⟩
  have hw4 := hw4.symm
  subst hw4
  go_wp2_with fail
  refine (dblocks_any w3 w.heap.size bs1 lv3 D (unhide HD3)).mono ?_
  rintro e w4 ⟨rfl, hw4⟩
  have hw4 := hw4.symm
  subst hw4
  rw [unhide HO7]
  have hmany : ¬ ((d.safe.length : Int) - 90 < 1) := by omega
  have hcase : (d.failed < D.failed) ∨ (¬ d.failed < D.failed ∧ (D.life == 0) = true) := by
    rcases unhide HO6 with e | e
    · exact .inl e
    · by_cases hq : d.failed < D.failed
      · exact .inl hq
      · exact .inr ⟨hq, by simp [e]⟩
  rcases hcase with hf | ⟨hf, hlf⟩
  all_goals
    go_wp2_with fail
    go_ret
    exact ⟨D, w.heap.size, bs1, lv3, rfl, unhide HO8, unhide HD3, unhide H3, unhide HR3, unhide HR32, unhide HB3, hB, by omega, unhide HFR⟩
end Go.Proofs.Ytcbindgpbeaebaa
