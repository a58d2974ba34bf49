import Derived.Test.YtcbindgpbeaebaaWalkX
namespace Go.Proofs.Ytcbindgpbeaebaa
open Go.RowKit Go.Deep
attribute [local go_sem ↓] Go.wp_at_zero Go.wp_at_succ

/-- A disk with nothing late and no record, behind a crash. -/
theorem crash_same (D : Dk) (ok : D.Ok) (c : Nat) (hl : D.late = []) (h0 : rd D.safe 0 = pad (recB [])) :
    (({ D with cap := c } : Dk).crash []).Ok ∧ (({ D with cap := c } : Dk).crash []).late = [] ∧ (({ D with cap := c } : Dk).crash []).safe = D.safe ∧ ((({ D with cap := c } : Dk).crash []).redo [] = (true, ({ D with cap := c } : Dk).crash []) ∧ (({ D with cap := c } : Dk).crash []).life = -1) ∧ ((({ D with cap := c } : Dk).crash []).flush.1 = true → Tells ((({ D with cap := c } : Dk).crash []).flush.2.read 0) []) := by
  have h := holds_crash D D.safe none ok c ⟨hl, .inl ⟨h0, fun _ _ => rfl⟩⟩
  exact ⟨h.1, h.2.1, h.2.2.1, ⟨h.2.2.2.1, rfl⟩, h.2.2.2.2⟩
theorem sure_put (R : Rf) (l : List (Nat × ByteArray)) (a : Int) : sureR { R with put := l } a = sureR R a := rfl
theorem read_e {D E : Dk} (hE : E.late = []) (hD : D.late = []) (hs : E.safe = D.safe) (i : Nat) : E.read i = D.read i := by rw [read_rd hE, read_rd hD, hs]
theorem same_e {D E : Dk} {R : Rf} (hE : E.late = []) (hD : D.late = []) (hs : E.safe = D.safe) : SameB E { R with put := [] } ↔ SameB D R := by
  unfold SameB
  rw [hs]
  exact ⟨fun h i hi => by rw [← read_e hE hD hs]; exact h i hi, fun h i hi => by rw [read_e hE hD hs]; exact h i hi⟩
theorem same_e2 {D E : Dk} {R : Rf} (hE : E.late = []) (hD : D.late = []) (hs : E.safe = D.safe) : SameB E R ↔ SameB D R := by
  unfold SameB
  rw [hs]
  exact ⟨fun h i hi => by rw [← read_e hE hD hs]; exact h i hi, fun h i hi => by rw [read_e hE hD hs]; exact h i hi⟩
theorem same_at (B : Nat) (w : World) (bl bd bs : Nat) (pv lv : Value) (d : Dk) (R : Rf) (sv rv : Value) (m : Int) (hm : m = (d.safe.length : Int) - 90) (hl : LAt w bl bd pv [] false) (h : DAt w bd bs lv d) (hr : RAt B w R sv rv) (hn : d.safe.length ≤ 4096) (hn90 : 90 ≤ d.safe.length) (hll : d.late.length ≤ 1000000) (hd : d.life ≠ 0) :
    Calls Try.prog 36 #[.pointer (some ⟨bl, 0, none⟩), .agg #[.int .i64 R.many, sv, rv], .int .i64 m] w fun e w' => SameAns e d R ∧ Below w.heap.size w w' := by
  subst hm
  exact same_any B w bl bd bs pv lv d R sv rv hl h hr hn hn90 hll hd

/-- Which reference is kept. -/
def Kept (tw : Bool) (R R2 Rn : Rf) : Prop := Rn = R ∨ (tw = true ∧ Rn = R2)
set_option maxRecDepth 100000 in
set_option maxHeartbeats 6400000 in
theorem opens_ok (w : World) (B bw bd bs : Nat) (xv lv : Value) (d : Dk) (R R2 : Rf) (sv rv sv2 rv2 : Value) (tw br : Bool) (X : Dk → Prop) (h : DAt w bd bs lv d)
    (hw : w.heap[bw]? = some (.cells (wcells bd xv R R2 sv rv sv2 rv2 tw br) 32 (0, 0))) (hB : B ≤ w.heap.size) (hBw : B ≤ bw) (hr : RAt B w R sv rv) (hr2 : RAt B w R2 sv2 rv2)
    (ok : d.Ok) (hs : 90 < d.safe.length) (hll : d.late.length ≤ 800000)
    (hgone : (d.life == 0) = false)
    (hop : ∀ c, ∃ psR, psR.length ≤ 80 ∧ (∀ p ∈ psR, 90 + p.1 < d.safe.length) ∧ (({ d with cap := c } : Dk).flush.1 = true → Tells (({ d with cap := c } : Dk).flush.2.read 0) psR) ∧ (∀ p ∈ inRoom ({ d with cap := c } : Dk).flush.2 0 psR, p.2.size ≤ 256) ∧ (({ d with cap := c } : Dk).redo psR).1 = true ∧ (({ d with cap := c } : Dk).redo psR).2.Ok ∧ (({ d with cap := c } : Dk).redo psR).2.safe.length = d.safe.length ∧ (({ d with cap := c } : Dk).redo psR).2.late = [] ∧ rd (({ d with cap := c } : Dk).redo psR).2.safe 0 = pad (recB []) ∧
      (SameB (({ d with cap := c } : Dk).redo psR).2 R ∨ (tw = true ∧ SameB (({ d with cap := c } : Dk).redo psR).2 R2)) ∧ X (({ d with cap := c } : Dk).redo psR).2) :
    Calls Try.prog 19 #[.pointer (some ⟨bw, 0, none⟩)] w fun e w' => ∃ D bl' bd' bs' lv' Rn svn, e = .returned (.bool true) ∧ X D ∧ Sys w' B bl' bd' bs' (.slice none 0 0) lv' [] false D ∧ Kept tw R R2 Rn ∧ SameB D Rn ∧
      w'.heap[bw]? = some (.cells (wcells bd' (.pointer (some ⟨bl', 0, none⟩)) { Rn with put := [] } R2 svn (.slice none 0 0) sv2 rv2 false false) 32 (0, 0)) ∧ RAt B w' { Rn with put := [] } svn (.slice none 0 0) ∧ RAt B w' R2 sv2 rv2 ∧ Below B w w' := by
  obtain ⟨so, scap, hsv⟩ := ownsRow_form hr.sure.base0
  obtain ⟨po, pcap, hpv⟩ := ownsRow_form hr.put.base0
  obtain ⟨so2, scap2, hsv2⟩ := ownsRow_form hr2.sure.base0
  obtain ⟨po2, pcap2, hpv2⟩ := ownsRow_form hr2.put.base0
  subst hsv hpv hsv2 hpv2
  obtain ⟨⟨x0, x1, x2, x3, x4, x5, x6, x7, x8, x9⟩, xz⟩ := wcell hw
  have hn := ok.n
  have HW := hide hw
  have HOP := hide hop
  clear hw hop x2 x3 x4 x5 x6 x7 x8 x9
  go_enter Try.func19, Try.ntmps19
  go_wp2_with fail
  refine (copy_any w bd bs lv d h (by omega) hn (by omega)).mono ?_
  rintro e w1 ⟨bs1, lv1, c, rfl, d1, b1, lb1, lv1b⟩
  obtain ⟨psR, o1, o2, o3, o4, o5, o6, o7, o8, o9, o10, o11⟩ := (unhide HOP) c
  have h1 := (b1.block bw (lt_of_heap (unhide HW))).trans (unhide HW)
  obtain ⟨⟨y0, y1, _, _, _, _, _, _, _, _⟩, yz⟩ := wcell h1
  have dA := (d1.setOther h1 (by decide) (by decide) (by decide) 0 (.pointer (some ⟨w.heap.size, 0, none⟩)))
  have hA := heap_setCell_same w1 bw 0 _ _ (.pointer (some ⟨w.heap.size, 0, none⟩)) h1
  have dB := dA.setOther hA (by decide) (by decide) (by decide) 1 (.pointer none)
  have hBk := heap_setCell_same _ bw 1 _ _ (.pointer none) hA
  have rA := ((hr.below b1).setOther h1 (by decide) 0 (.pointer (some ⟨w.heap.size, 0, none⟩))).setOther hA (by decide) 1 (.pointer none)
  have rA2 := ((hr2.below b1).setOther h1 (by decide) 0 (.pointer (some ⟨w.heap.size, 0, none⟩))).setOther hA (by decide) 1 (.pointer none)
  have bB := ((b1.mono hB).setCell hBw (.pointer (some ⟨w.heap.size, 0, none⟩)) (p := ⟨bw, 0, none⟩)).setCell hBw (.pointer none) (p := ⟨bw, 1, none⟩)
  have szB : ((w1.setCell ⟨bw, 0, none⟩ (.pointer (some ⟨w.heap.size, 0, none⟩))).setCell ⟨bw, 1, none⟩ (.pointer none)).heap.size = w1.heap.size := by simp [World.setCell]
  have s01 := b1.size
  have HDB := hide dB
  have HBK := hide hBk
  have HRA := hide rA
  have HRA2 := hide rA2
  have HBB := hide bB
  have HSZ := hide szB
  have HO3 := hide o3
  have HO4 := hide o4
  have HO5 := hide o5
  have HO6 := hide o6
  have HO7 := hide o7
  have HO8 := hide o8
  have HO9 := hide o9
  have HO10 := hide o10
  have HO11 := hide o11
  clear o7 o8 o9 o10 o11
  clear dA hA dB hBk rA rA2 bB szB o3 o4 o5 o6 h1 d1 b1 x0 x1 xz
  go_wp2_with fail
  generalize hWB : (w1.setCell ⟨bw, 0, none⟩ (.pointer (some ⟨w.heap.size, 0, none⟩))).setCell ⟨bw, 1, none⟩ (.pointer none) = wB at HDB HBK HRA HRA2 HBB HSZ ⊢
  clear hWB
  have hK : wB.heap[bw]? = some (.cells (wcells w.heap.size (.pointer none) R R2 (.slice so R.sure.length scap) (.slice po R.put.length pcap) (.slice so2 R2.sure.length scap2) (.slice po2 R2.put.length pcap2) tw br) 32 (0, 0)) := by rw [unhide HBK]; rfl
  obtain ⟨⟨z0, z1, _, _, _, _, _, _, _, _⟩, zz⟩ := wcell hK
  have HK := hide hK
  clear hK y0 y1 yz HBK
  refine (dead_any wB w.heap.size bs1 lv1 { d with cap := c } (unhide HDB)).mono ?_
  rintro e w2 ⟨rfl, hw2⟩
  have hw2 := hw2.symm
  subst hw2
  simp only
  go_wp2_with fail
  refine (failed_any wB w.heap.size bs1 lv1 { d with cap := c } (unhide HDB)).mono ?_
  rintro e w2 ⟨rfl, hw2⟩
  have hw2 := hw2.symm
  subst hw2
  simp only
  go_wp2_with fail
  refine (open_any wB B w.heap.size bs1 lv1 { d with cap := c } psR (unhide HDB) (by rw [unhide HSZ]; omega) hB (by omega) (fun g hg => by have := lv1b g hg; omega) ⟨ok.w0, ok.w1, ok.l0, ok.l1, ok.f0, ok.f1, ok.n, ok.lt⟩ hs (by show d.late.length ≤ _; omega) (unhide HO3) o1 o2 (unhide HO4)).mono ?_
  rintro e w3 ⟨lv3, st3, b3, ho, _⟩
  obtain ⟨he, s3⟩ := ho (unhide HO5)
  subst he
  have h3 := (unhide HDB).keep st3 (unhide HK) (by decide) (by decide) (by decide)
  have r3 := (unhide HRA).keepD (unhide HDB) st3
  have r32 := (unhide HRA2).keepD (unhide HDB) st3
  have b03 := (unhide HBB).trans b3
  obtain ⟨⟨q0, q1, q2, q3, q4, q5, q6, q7, q8, q9⟩, qz⟩ := wcell h3
  have lbw : bw < w3.heap.size := lt_of_heap h3
  have HS3 := hide s3
  have H3 := hide h3
  have HR3 := hide r3
  have HR32 := hide r32
  have HB3 := hide b03
  clear h3 s3 r3 r32 b03 ho b3 st3 z0 z1 zz
  generalize hD : (({ d with cap := c } : Dk).redo psR).2 = D at HS3 HO6 HO7 HO8 HO9 HO10 HO11
  clear hD
  have hDn : 0 < D.safe.length := by rw [unhide HO7]; omega
  have hDll : D.late.length ≤ 1000000 := by rw [unhide HO8]; simp
  go_wp2_with fail
  refine (failed_any w3 w.heap.size bs1 lv3 D (unhide HS3).disk).mono ?_
  rintro e w4 ⟨rfl, hw4⟩
  have hw4 := hw4.symm
  subst hw4
  go_wp2_with fail
  refine (dead_any w3 w.heap.size bs1 lv3 D (unhide HS3).disk).mono ?_
  rintro e w4 ⟨rfl, hw4⟩
  have hw4 := hw4.symm
  subst hw4
  go_wp2_with fail
  refine (dblocks_any w3 w.heap.size bs1 lv3 D (unhide HS3).disk).mono ?_
  rintro e w4 ⟨rfl, hw4⟩
  have hw4 := hw4.symm
  subst hw4
  rw [unhide HO7]
  have hmany : ¬ ((d.safe.length : Int) - 90 < 1) := by omega
  go_wp2_with fail
  refine (copy_any w3 w.heap.size bs1 lv3 D (unhide HS3).disk hDn (by rw [unhide HO7]; exact hn) hDll).mono ?_
  rintro e w4 ⟨bs4, lv4, c4, rfl, d4, b4, lb4, lvb4⟩
  have HD4 := hide d4
  have HB4 := hide b4
  have sz4 := b4.size
  clear d4 b4
  go_wp2_with fail
  have okD : ({ D with cap := c4 } : Dk).Ok := ⟨(unhide HO6).w0, (unhide HO6).w1, (unhide HO6).l0, (unhide HO6).l1, (unhide HO6).f0, (unhide HO6).f1, (unhide HO6).n, (unhide HO6).lt⟩
  refine (crash_any w4 w3.heap.size bs4 lv4 (.slice none 0 0) { D with cap := c4 } [] (unhide HD4) okD (by show D.late.length ≤ _; exact hDll) ⟨⟨none, 0, rfl, fun i c h => by simp at h⟩, by simp⟩ (fun b o n c e => by simp at e)).mono ?_
  rintro e w5 ⟨lv5, rfl, d5, st5⟩
  obtain ⟨hc1, hc2, hc3, hc4, hc5⟩ := crash_same D (unhide HO6) c4 (unhide HO8) (unhide HO9)
  have b5 := st5.below (B := w3.heap.size) (Nat.le_refl _) lb4 lvb4 sz4
  have fr5 : ∀ g, lv5.ownBlock = some g → w3.heap.size ≤ g := fun g hg => by
    rcases st5.fresh g hg with e | e
    · exact lvb4 g e
    · omega
  have sz5 := b5.size
  generalize hE : ({ D with cap := c4 } : Dk).crash [] = E at d5 hc1 hc2 hc3 hc4 hc5
  clear hE okD
  have HD5 := hide d5
  have HB5 := hide ((unhide HB4).trans b5)
  have HFR5 := hide fr5
  have HC1 := hide hc1
  have HC2 := hide hc2
  have HC3 := hide hc3
  have HC4 := hide hc4
  have HC5 := hide hc5
  clear d5 b5 fr5 hc1 hc2 hc3 hc4 hc5 st5 HD4
  go_wp2_with fail
  refine (open_any w5 w3.heap.size w3.heap.size bs4 lv5 E [] (unhide HD5) (by omega) (Nat.le_refl _) lb4 (unhide HFR5) (unhide HC1) (by rw [unhide HC3, unhide HO7]; omega) (by rw [unhide HC2]; simp) (unhide HC5) (by simp) (by simp) (by simp [inRoom])).mono ?_
  rintro e w6 ⟨lv6, _, b6, ho6, _⟩
  obtain ⟨he6, s6⟩ := ho6 (by rw [(unhide HC4).1])
  subst he6
  rw [(unhide HC4).1] at s6
  simp only at s6
  have bel6 := (unhide HB5).trans b6
  have h6 := (bel6.block bw lbw).trans (unhide H3)
  obtain ⟨⟨t0, t1, t2, t3, t4, t5, t6, t7, t8, t9⟩, tz⟩ := wcell h6
  have HS6 := hide s6
  have HB6 := hide bel6
  have HR6 := hide ((unhide HR3).below bel6)
  have HR62 := hide ((unhide HR32).below bel6)
  have H6 := hide h6
  have sz6 := bel6.size
  clear s6 bel6 h6 b6 ho6 q0 q1 q2 q3 q4 q5 q6 q7 q8 q9 qz
  go_wp2_with fail
  refine (rDrop_any B w6 R (.slice so R.sure.length scap) (.slice po R.put.length pcap) (unhide HR6)).mono ?_
  rintro e w7 ⟨sv7, rfl, r7, b7⟩
  have h7 := (b7.block bw (by omega)).trans (unhide H6)
  obtain ⟨⟨v0, v1, v2, v3, v4, v5, v6, v7, v8, v9⟩, vz⟩ := wcell h7
  have sz7 := b7.size
  have HR7 := hide r7
  have HB7 := hide ((unhide HB6).trans (b7.mono sz6))
  have HS7 := hide ((unhide HS6).below b7)
  have HR72 := hide ((unhide HR62).below b7)
  have HR71 := hide ((unhide HR6).below b7)
  have H7 := hide h7
  have hElen : (d.safe.length : Int) - 90 = (E.safe.length : Int) - 90 := by rw [unhide HC3, unhide HO7]
  have HEL := hide hElen
  clear h7 r7 b7 hElen t0 t1 t2 t3 t4 t5 t6 t7 t8 t9 tz
  have hE0 : E.life ≠ 0 := by rw [(unhide HC4).2]; decide
  go_wp2_with fail
  refine (same_at w6.heap.size w7 w5.heap.size w3.heap.size bs4 (.slice none 0 0) lv6 E { R with put := [] } sv7 (.slice none 0 0) ((d.safe.length : Int) - 90) (unhide HEL) (unhide HS7).log (unhide HS7).disk (unhide HR7) (by rw [unhide HC3, unhide HO7]; exact hn) (by rw [unhide HC3, unhide HO7]; omega) (by rw [unhide HC2]; simp) hE0).mono ?_
  rintro e w8 ⟨ans1, b8⟩
  obtain ⟨f1, rfl, hf1⟩ := ans1
  have h8 := (b8.block bw (by omega)).trans (unhide H7)
  obtain ⟨⟨k0, k1, k2, k3, k4, k5, k6, k7, k8, k9⟩, kz⟩ := wcell h8
  have HB8 := hide ((unhide HB7).trans (b8.mono (by omega)))
  have HS8 := hide ((unhide HS7).below b8)
  have HR82 := hide ((unhide HR72).below b8)
  have sz8 := b8.size
  have HF1 := hide hf1
  have H8 := hide h8
  clear hf1 h8 b8 v0 v1 v2 v3 v4 v5 v6 v7 v8 v9 vz
  go_wp2_with fail
  refine (same_at B w8 w5.heap.size w3.heap.size bs4 (.slice none 0 0) lv6 E R2 (.slice so2 R2.sure.length scap2) (.slice po2 R2.put.length pcap2) ((d.safe.length : Int) - 90) (unhide HEL) (unhide HS8).log (unhide HS8).disk (unhide HR82) (by rw [unhide HC3, unhide HO7]; exact hn) (by rw [unhide HC3, unhide HO7]; omega) (by rw [unhide HC2]; simp) hE0).mono ?_
  rintro e w9 ⟨ans2, b9⟩
  obtain ⟨f2, rfl, hf2⟩ := ans2
  have bel9 := (unhide HB8).trans (b9.mono (by omega))
  have s9 := (unhide HS3).below bel9
  have h9 := (bel9.block bw lbw).trans (unhide H3)
  have r9 := (unhide HR3).below bel9
  have r92 := (unhide HR32).below bel9
  have bB9 := (unhide HB3).trans (bel9.mono (unhide HS3).base)
  obtain ⟨⟨j0, j1, j2, j3, j4, j5, j6, j7, j8, j9⟩, jz⟩ := wcell h9
  have hSE := same_e (R := R) (unhide HC2) (unhide HO8) (unhide HC3)
  have hSE2 := same_e2 (R := R2) (unhide HC2) (unhide HO8) (unhide HC3)
  have HS9 := hide s9
  have H9 := hide h9
  have HR9 := hide r9
  have HR92 := hide r92
  have HB9 := hide bB9
  have sz9 : B ≤ w9.heap.size := s9.base
  have HF1' : Hid (f1 = true ↔ SameB D R) := (unhide HF1).trans hSE
  have HF2' : Hid (f2 = true ↔ SameB D R2) := hf2.trans hSE2
  clear s9 h9 r9 r92 bB9 bel9 b9 hf2 hSE hSE2 HF1 k0 k1 k2 k3 k4 k5 k6 k7 k8 k9 kz HS6 HB6 HR6 HR62 H6 HR7 HB7 HS7 HR72 HR71 H7 HB8 HS8 HR82 H8
  by_cases hSm : SameB D R
  · have hf1t : f1 = true := (unhide HF1').2 hSm
    subst hf1t
    have HSM := hide hSm
    clear hSm
    go_wp2_with fail
    refine (rDrop_any B w9 R (.slice so R.sure.length scap) (.slice po R.put.length pcap) (unhide HR9)).mono ?_
    rintro e w10 ⟨sv10, rfl, r10, b10⟩
    obtain ⟨so10, scap10, hsv10⟩ := ownsRow_form r10.sure.base0
    subst hsv10
    have h10 := (b10.block bw (lt_of_heap (unhide H9))).trans (unhide H9)
    obtain ⟨⟨n0, n1, n2, n3, n4, n5, n6, n7, n8, n9⟩, nz⟩ := wcell h10
    have st := struct6 ((unhide HS9).below b10) r10 ((unhide HR92).below b10) ((unhide HB9).trans (b10.mono sz9)) h10 hBw 2 (.int .i64 R.many) 3 (.slice so10 R.sure.length scap10) 4 (.slice none 0 0) 1 (.pointer (some ⟨wB.heap.size, 0, none⟩)) 8 (.bool false) 9 (.bool false)
    have HST := hide st
    clear st r10 b10 h10 j0 j1 j2 j3 j4 j5 j6 j7 j8 j9 jz
    cases hlf : (D.life == 0) with
    | true =>
      go_wp2_with fail
      go_ret
      obtain ⟨t1, t2, t3, t4, t5⟩ := unhide HST
      exact ⟨D, wB.heap.size, w.heap.size, bs1, lv3, R, .slice so10 R.sure.length scap10, rfl, unhide HO11, t1, .inl rfl, unhide HSM, by rw [t2]; rfl, t3.base sz9, t4, t5⟩
    | false =>
      have hDl : D.life ≠ 0 := by simpa using hlf
      have HDL := hide hDl
      have hm7 : (d.safe.length : Int) - 90 = (D.safe.length : Int) - 90 := by rw [unhide HO7]
      have HM7 := hide hm7
      clear hDl hm7
      go_wp2_with fail
      refine (same_at w9.heap.size _ wB.heap.size w.heap.size bs1 (.slice none 0 0) lv3 D { R with put := [] } (.slice so10 R.sure.length scap10) (.slice none 0 0) ((d.safe.length : Int) - 90) (unhide HM7) (unhide HST).1.log (unhide HST).1.disk (unhide HST).2.2.1 (by rw [unhide HO7]; exact hn) (by rw [unhide HO7]; omega) hDll (unhide HDL)).mono ?_
      rintro e w11 ⟨ans3, b11⟩
      obtain ⟨f3, rfl, hf3⟩ := ans3
      have hf3t : f3 = true := hf3.2 fun i hi => (unhide HSM) i hi
      subst hf3t
      obtain ⟨t1, t2, t3, t4, t5⟩ := unhide HST
      have u1 := t1.below b11
      have u2 := (b11.block bw (lt_of_heap t2)).trans t2
      have u3 := (t3.base sz9).below b11
      have u4 := t4.below b11
      have u5 := t5.trans (b11.mono t1.base)
      have HU1 := hide u1
      have HU2 := hide u2
      have HU3 := hide u3
      have HU4 := hide u4
      have HU5 := hide u5
      clear t1 t2 t3 t4 t5 u1 u2 u3 u4 u5 b11 HST hf3
      go_wp2_with fail
      go_ret
      exact ⟨D, wB.heap.size, w.heap.size, bs1, lv3, R, .slice so10 R.sure.length scap10, rfl, unhide HO11, unhide HU1, .inl rfl, unhide HSM, by rw [unhide HU2]; rfl, unhide HU3, unhide HU4, unhide HU5⟩
  · obtain ⟨htw, hS2⟩ : tw = true ∧ SameB D R2 := by
      rcases unhide HO10 with e | e
      · exact absurd e hSm
      · exact e
    have hf1f : f1 = false := by
      cases f1
      · rfl
      · exact absurd ((unhide HF1').1 rfl) hSm
    have hf2t : f2 = true := (unhide HF2').2 hS2
    subst hf1f hf2t htw
    have HSM := hide hS2
    clear hSm hS2
    have st3 := struct3 (unhide HS9) (unhide HR9) (unhide HR92) (unhide HB9) (unhide H9) hBw 2 (.int .i64 R2.many) 3 (.slice so2 R2.sure.length scap2) 4 (.slice po2 R2.put.length pcap2)
    have sz9' : ((((w9.setCell ⟨bw, 2, none⟩ (.int .i64 R2.many)).setCell ⟨bw, 3, none⟩ (.slice so2 R2.sure.length scap2)).setCell ⟨bw, 4, none⟩ (.slice po2 R2.put.length pcap2))).heap.size = w9.heap.size := by simp [World.setCell]
    have HST3 := hide st3
    have HSZ9 := hide sz9'
    clear st3 sz9'
    go_wp2_with fail
    refine (rDrop_any B _ R2 (.slice so2 R2.sure.length scap2) (.slice po2 R2.put.length pcap2) (unhide HST3).2.2.2.1).mono ?_
    rintro e w10 ⟨sv10, rfl, r10, b10⟩
    rw [unhide HSZ9] at r10
    obtain ⟨so10, scap10, hsv10⟩ := ownsRow_form r10.sure.base0
    subst hsv10
    obtain ⟨g1, g2, g3, g4, g5⟩ := unhide HST3
    have h10 := (b10.block bw (lt_of_heap g2)).trans g2
    have h10' : w10.heap[bw]? = some (.cells (wcells w.heap.size (.pointer none) R2 R2 (.slice so2 R2.sure.length scap2) (.slice po2 R2.put.length pcap2) (.slice so2 R2.sure.length scap2) (.slice po2 R2.put.length pcap2) true br) 32 (0, 0)) := by rw [h10]; rfl
    obtain ⟨⟨n0, n1, n2, n3, n4, n5, n6, n7, n8, n9⟩, nz⟩ := wcell h10'
    have st := struct6 (g1.below b10) r10 (g4.below b10) (g5.trans (b10.mono g1.base)) h10' hBw 2 (.int .i64 R2.many) 3 (.slice so10 R2.sure.length scap10) 4 (.slice none 0 0) 1 (.pointer (some ⟨wB.heap.size, 0, none⟩)) 8 (.bool false) 9 (.bool false)
    have HST := hide st
    clear st r10 b10 h10 h10' g1 g2 g3 g4 g5 j0 j1 j2 j3 j4 j5 j6 j7 j8 j9 jz HST3
    cases hlf : (D.life == 0) with
    | true =>
      go_wp2_with fail
      go_ret
      obtain ⟨t1, t2, t3, t4, t5⟩ := unhide HST
      exact ⟨D, wB.heap.size, w.heap.size, bs1, lv3, R2, .slice so10 R2.sure.length scap10, rfl, unhide HO11, t1, .inr ⟨rfl, rfl⟩, unhide HSM, by rw [t2]; rfl, t3.base sz9, t4, t5⟩
    | false =>
      have hDl : D.life ≠ 0 := by simpa using hlf
      have HDL := hide hDl
      have hm7 : (d.safe.length : Int) - 90 = (D.safe.length : Int) - 90 := by rw [unhide HO7]
      have HM7 := hide hm7
      clear hDl hm7
      go_wp2_with fail
      refine (same_at w9.heap.size _ wB.heap.size w.heap.size bs1 (.slice none 0 0) lv3 D { R2 with put := [] } (.slice so10 R2.sure.length scap10) (.slice none 0 0) ((d.safe.length : Int) - 90) (unhide HM7) (unhide HST).1.log (unhide HST).1.disk (unhide HST).2.2.1 (by rw [unhide HO7]; exact hn) (by rw [unhide HO7]; omega) hDll (unhide HDL)).mono ?_
      rintro e w11 ⟨ans3, b11⟩
      obtain ⟨f3, rfl, hf3⟩ := ans3
      have hf3t : f3 = true := hf3.2 fun i hi => (unhide HSM) i hi
      subst hf3t
      obtain ⟨t1, t2, t3, t4, t5⟩ := unhide HST
      have u1 := t1.below b11
      have u2 := (b11.block bw (lt_of_heap t2)).trans t2
      have u3 := (t3.base sz9).below b11
      have u4 := t4.below b11
      have u5 := t5.trans (b11.mono t1.base)
      have HU1 := hide u1
      have HU2 := hide u2
      have HU3 := hide u3
      have HU4 := hide u4
      have HU5 := hide u5
      clear t1 t2 t3 t4 t5 u1 u2 u3 u4 u5 b11 HST hf3
      go_wp2_with fail
      go_ret
      exact ⟨D, wB.heap.size, w.heap.size, bs1, lv3, R2, .slice so10 R2.sure.length scap10, rfl, unhide HO11, unhide HU1, .inr ⟨rfl, rfl⟩, unhide HSM, by rw [unhide HU2]; rfl, unhide HU3, unhide HU4, unhide HU5⟩
end Go.Proofs.Ytcbindgpbeaebaa
