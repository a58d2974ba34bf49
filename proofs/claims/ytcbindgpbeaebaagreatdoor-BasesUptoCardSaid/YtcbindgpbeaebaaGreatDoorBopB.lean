import Derived.Test.YtcbindgpbeaebaaGreatDoorBinA
import Derived.Test.YtcbindgpbeaebaaGreatDoorPureL
import Derived.Deep.QuietTactic
import Derived.Deep.RegionHeld3
namespace Go.Proofs.YtcbindgpbeaebaaGreatDoor
open Go.RowKit Go.Deep
attribute [local go_sem ↓] Go.wp_at_zero Go.wp_at_succ

section
variable {w : World} {B bw bd : Nat} {xv bv ov : Value} {tw br : Bool} {lsv : Value} {l l2 : List Nd} {X : List Value}
/-- The struct's stores behind an Open that went well. -/
theorem St.set3 (h : St w B bw bd xv bv ov tw br lsv l l2 X) (v : Value) : St (((w.setCell ⟨bw, 1, none⟩ v).setCell ⟨bw, 4, none⟩ (.bool false)).setCell ⟨bw, 5, none⟩ (.bool false)) B bw bd v bv ov false false lsv l l2 X := ((h.setX v).setTw false).setBr false
end
theorem keepsT_trans {P : TypeId → Prop} {w w1 w2 : World} (h : KeepsT P w w1) (k : KeepsT P w1 w2) : KeepsT P w w2 := fun g cur t hc ht => by
  have h1 := h g cur t hc ht
  exact (k g cur t (h1.trans hc) ht).trans h1
theorem St.keeps3 {w : World} {B bw bd : Nat} {xv bv ov : Value} {tw br : Bool} {lsv : Value} {l l2 : List Nd} {X : List Value} (h : St w B bw bd xv bv ov tw br lsv l l2 X) (v : Value) : KeepsT Sty w (((w.setCell ⟨bw, 1, none⟩ v).setCell ⟨bw, 4, none⟩ (.bool false)).setCell ⟨bw, 5, none⟩ (.bool false)) :=
  keepsT_trans (keepsT_trans ((keepsT_set h.own).weak fun _ => sty_bases) ((keepsT_set (h.setX v).own).weak fun _ => sty_bases)) ((keepsT_set ((h.setX v).setTw false).own).weak fun _ => sty_bases)

set_option maxRecDepth 100000 in
set_option maxHeartbeats 12800000 in
theorem bopens_ok (w : World) (B bw bd bs N : Nat) (xv bv ov lv : Value) (d : Dk) (tw br : Bool) (lsv : Value) (l l2 : List Nd) (XL : List Value) (X : Dk → List Pl → Prop) (h : DAt w bd bs lv d) (hst : St w B bw bd xv bv ov tw br lsv l l2 XL) (hB : B ≤ w.heap.size) (hBw : B ≤ bw)
    (ok : d.Ok) (hs : d.safe.length = N) (hN : 300 ≤ N) (hll : d.late.length ≤ 800000) (hl : l.length ≤ 60) (hl2 : l2.length ≤ 1000) (hX : XL.length + 8 ≤ 100000000) (hgone : (d.life == 0) = false)
    (hop : ∀ c, ∃ psR D M, OpenIn { d with cap := c } psR ∧ ({ d with cap := c } : Dk).redo psR = (true, D) ∧ OpenOut N D M ∧ (nodesOf M = l ∨ (tw = true ∧ nodesOf M = l2)) ∧ X D M) :
    Calls Tryz.prog 35 #[.pointer (some ⟨bw, 0, none⟩)] w fun e w' => ∃ D M bb' bl' bd' bs' lv' bvn ls2 X2, e = .returned (.bool true) ∧ X D M ∧ OpenOut N D M ∧ BAt w' bb' bl' false ∧ B ≤ bb' ∧ Sys w' B bl' bd' bs' (.slice none 0 0) lv' [] false D ∧ St w' B bw bd' (.pointer (some ⟨bb', 0, none⟩)) bvn ov false false ls2 (nodesOf M) l2 X2 ∧ X2.length = XL.length + 8 ∧ Below B w w' := by
  obtain ⟨bo, bc, hbf⟩ := hst.n1.form
  obtain ⟨oo, oc, hof⟩ := hst.n2.form
  subst hbf hof
  obtain ⟨⟨x0, x1, _, _, _, _, _⟩, xz⟩ := bcell hst.own
  have hn := ok.n
  have HST := hide hst
  have HOP := hide hop
  clear hst hop
  go_enter Tryz.func35, Tryz.ntmps35
  go_wp2_with fail
  refine (copy_any w bd bs lv d h (by omega) hn (by omega)).mono ?_
  rintro e w1 ⟨bs1, lv1, c, rfl, d1, b1, lb1, lv1b⟩
  obtain ⟨psR, D, M, oi, o5, o6, o7, o8⟩ := (unhide HOP) c
  have h1 := (unhide HST).below b1
  obtain ⟨⟨y0, y1, _, _, _, _, _⟩, yz⟩ := bcell h1.own
  have hA := h1.setD w.heap.size
  have dA := d1.keepU ((keepsT_set h1.own (i := 0) (u := .pointer (some ⟨w.heap.size, 0, none⟩))).weak fun _ => sty_bases)
  have hK := hA.setX (.pointer none)
  have dB := dA.keepU ((keepsT_set hA.own (i := 1) (u := .pointer none)).weak fun _ => sty_bases)
  have bB := ((b1.mono hB).setCell hBw (.pointer (some ⟨w.heap.size, 0, none⟩)) (p := ⟨bw, 0, none⟩)).setCell hBw (.pointer none) (p := ⟨bw, 1, none⟩)
  have szB : ((w1.setCell ⟨bw, 0, none⟩ (.pointer (some ⟨w.heap.size, 0, none⟩))).setCell ⟨bw, 1, none⟩ (.pointer none)).heap.size = w1.heap.size := by simp [World.setCell]
  have s01 := b1.size
  have HDB := hide dB
  have HK := hide hK
  have HBB := hide bB
  have HSZ := hide szB
  have HOI := hide oi
  have HO5 := hide o5
  have HO6 := hide o6
  have HO7 := hide o7
  have HO8 := hide o8
  clear hA dA hK dB bB szB oi o5 o6 o7 o8 h1 d1 b1 x0 x1 xz HOP
  go_wp2_with fail
  generalize hWB : (w1.setCell ⟨bw, 0, none⟩ (.pointer (some ⟨w.heap.size, 0, none⟩))).setCell ⟨bw, 1, none⟩ (.pointer none) = wB at HDB HK HBB HSZ ⊢
  clear hWB
  obtain ⟨⟨z0, z1, _, _, _, _, _⟩, zz⟩ := bcell (unhide HK).own
  clear y0 y1 yz
  refine (dead_any wB w.heap.size bs1 lv1 { d with cap := c } (unhide HDB)).mono ?_
  rintro e w2 ⟨rfl, hw2⟩
  have hw2 := hw2.symm
  subst hw2
  simp only
  go_wp2_with fail
  refine (failed_any wB w.heap.size bs1 lv1 { d with cap := c } (unhide HDB)).mono ?_
  rintro e w2 ⟨rfl, hw2⟩
  have hw2 := hw2.symm
  subst hw2
  simp only
  go_wp2_with fail
  refine (bopen_any wB B w.heap.size bs1 lv1 { d with cap := c } psR (unhide HDB) (by rw [unhide HSZ]; omega) hB (by omega) (fun g hg => by have := lv1b g hg; omega) (ok.cap c) (by show 300 ≤ d.safe.length; omega) (by show d.late.length ≤ _; omega) (unhide HOI).tells (unhide HOI).len (unhide HOI).lt (unhide HOI).room).mono ?_
  rintro e w3 ⟨lv3, st3, b3, ho⟩
  rw [unhide HO5] at ho
  dsimp only at ho
  obtain ⟨bb, hbb, he, ba3, s3⟩ : ∃ bb, wB.heap.size ≤ bb ∧ e = .returned (.tuple #[.pointer (some ⟨bb, 0, none⟩), .int .i64 0]) ∧ BAt w3 bb wB.heap.size false ∧ Sys w3 B wB.heap.size w.heap.size bs1 (.slice none 0 0) lv3 [] false D := by
    rcases ho with ⟨bb, _, _, r3, he, ba, s⟩ | ⟨hq, _, _⟩
    · exact ⟨bb, r3, he, ba, s⟩
    · rcases hq with e | e
      · cases e
      · exact absurd e (unhide HO6).life
  subst he
  have h3 := (unhide HK).kept st3.size fun g cur t hc ht => (unhide HDB).keepsT st3 g cur t hc (lty_disk ht)
  have b03 := (unhide HBB).trans b3
  have hBb : B ≤ bb := by rw [unhide HSZ] at hbb; omega
  obtain ⟨⟨q0, q1, q2, q3, q4, q5, q6⟩, qz⟩ := bcell h3.own
  have hDn : D.safe.length = N := (unhide HO6).n
  have hDl : (D.life == 0) = false := by simpa using (unhide HO6).life
  have lbw : bw < w3.heap.size := lt_of_heap h3.own
  have H3 := hide h3
  have HBA3 := hide ba3
  have HS3 := hide s3
  have HB3 := hide b03
  clear h3 ba3 s3 b03 ho b3 st3 z0 z1 zz
  go_wp2_with fail
  refine (failed_any w3 w.heap.size bs1 lv3 D (unhide HS3).disk).mono ?_
  rintro e w4 ⟨rfl, hw4⟩
  have hw4 := hw4.symm
  subst hw4
  go_wp2_with fail
  refine (dead_any w3 w.heap.size bs1 lv3 D (unhide HS3).disk).mono ?_
  rintro e w4 ⟨rfl, hw4⟩
  have hw4 := hw4.symm
  subst hw4
  go_wp2_with fail
  refine (dblocks_any w3 w.heap.size bs1 lv3 D (unhide HS3).disk).mono ?_
  rintro e w4 ⟨rfl, hw4⟩
  have hw4 := hw4.symm
  subst hw4
  rw [hDn]
  have hmany : ¬ ((N : Int) < 300) := by omega
  go_wp2_with fail
  refine (copy_any w3 w.heap.size bs1 lv3 D (unhide HS3).disk (by omega) (unhide HO6).ok.n (by rw [(unhide HO6).late]; simp)).mono ?_
  rintro e w4 ⟨bs4, lv4, c4, rfl, d4, b4, lb4, lvb4⟩
  have HD4 := hide d4
  have HB4 := hide b4
  have sz4 := b4.size
  clear d4 b4
  go_wp2_with fail
  refine (crash_any w4 w3.heap.size bs4 lv4 (.slice none 0 0) { D with cap := c4 } [] (unhide HD4) ((unhide HO6).ok.cap c4) (by show D.late.length ≤ _; rw [(unhide HO6).late]; simp) ⟨⟨none, 0, rfl, fun i c h => by simp at h⟩, by simp⟩ (fun b o n c e => by simp at e)).mono ?_
  rintro e w5 ⟨lv5, rfl, d5, st5⟩
  obtain ⟨E, hE, oE, iE, rE⟩ := (unhide HO6).crash c4
  rw [hE] at d5
  have b5 := st5.below (B := w3.heap.size) (Nat.le_refl _) lb4 lvb4 sz4
  have fr5 : ∀ g, lv5.ownBlock = some g → w3.heap.size ≤ g := fun g hg => by
    rcases st5.fresh g hg with e | e
    · exact lvb4 g e
    · omega
  have sz5 := b5.size
  clear hE
  have hEn : E.safe.length = N := oE.n
  have HD5 := hide d5
  have HB5 := hide ((unhide HB4).trans b5)
  have HFR5 := hide fr5
  have HOE := hide oE
  have HIE := hide iE
  have HRE := hide rE
  clear d5 b5 fr5 oE iE rE st5 HD4
  go_wp2_with fail
  refine (bopen_any w5 w3.heap.size w3.heap.size bs4 lv5 E [] (unhide HD5) (by omega) (Nat.le_refl _) lb4 (unhide HFR5) (unhide HOE).ok (by omega) (by rw [(unhide HOE).late]; simp) (unhide HIE).tells (unhide HIE).len (unhide HIE).lt (unhide HIE).room).mono ?_
  rintro e w6 ⟨lv6, st6, b6, ho6⟩
  rw [unhide HRE] at ho6
  dsimp only at ho6
  obtain ⟨yb, hyb, he6, ba6, s6⟩ : ∃ yb, w5.heap.size ≤ yb ∧ e = .returned (.tuple #[.pointer (some ⟨yb, 0, none⟩), .int .i64 0]) ∧ BAt w6 yb w5.heap.size false ∧ Sys w6 w3.heap.size w5.heap.size w3.heap.size bs4 (.slice none 0 0) lv6 [] false E := by
    rcases ho6 with ⟨bb, _, _, r3, he, ba, s⟩ | ⟨hq, _, _⟩
    · exact ⟨bb, r3, he, ba, s⟩
    · rcases hq with e | e
      · cases e
      · exact absurd e (unhide HOE).life
  subst he6
  have bel6 := (unhide HB5).trans b6
  have h6 := (unhide H3).below bel6
  have hnod := nodes_of w6 w3.heap.size yb w5.heap.size w3.heap.size bs4 N lv6 E M ba6 s6 (unhide HOE) hN
  have HN6 := hide hnod
  have HB6 := hide bel6
  have H6 := hide h6
  have sz6 := bel6.size
  clear s6 ba6 bel6 h6 b6 ho6 st6 hnod q0 q1 q2 q3 q4 q5 q6 qz
  go_wp2_with fail
  refine (unhide HN6).mono ?_
  rintro e w7 ⟨v, rfl, hv7, b7⟩
  obtain ⟨vo, vc, hvf⟩ := row_form hv7
  subst hvf
  have h7 := (unhide H6).below b7
  obtain ⟨⟨q0, q1, q2, q3, q4, q5, q6⟩, qz⟩ := bcell h7.own
  have hMl : (nodesOf M).length ≤ 60 := by rw [nodesOf_len]; exact (unhide HO6).cont.mo.len
  have HV7 := hide hv7
  have HB7 := hide b7
  have H7 := hide h7
  clear hv7 b7 h7
  go_wp2_with fail
  refine (bNodes_any w7 (.slice bo l.length bc) l (unhide H7).n1 (by omega)).mono ?_
  rintro e w8 ⟨u, rfl, hu, b8⟩
  obtain ⟨uo, uc, huf⟩ := row_form hu
  subst huf
  have HV8 := hide (row_below (unhide HV7) b8)
  have HU8 := hide hu
  have HB8 := hide b8
  clear hu b8 q0 q1 q2 q3 q4 q5 q6 qz
  go_wp2_with fail
  refine (sameNodes_any w8 (.slice vo (nodesOf M).length vc) (.slice uo l.length uc) (nodesOf M) l (unhide HV8).base0 (unhide HU8).base0 (by omega) (by omega)).mono ?_
  rintro e w9 ⟨rfl, b9⟩
  have bel9 : Below w7.heap.size w7 w9 := (unhide HB8).trans (b9.mono (unhide HB8).size)
  have h9 := (unhide H7).below bel9
  obtain ⟨⟨q0, q1, q2, q3, q4, q5, q6⟩, qz⟩ := bcell h9.own
  have HV9 := hide (row_below (unhide HV8) b9)
  have HB9 := hide bel9
  have H9 := hide h9
  obtain ⟨f1, hf1⟩ : ∃ f1, f1 = sameN (nodesOf M) l := ⟨_, rfl⟩
  rw [← hf1]
  have HF1 := hide hf1
  clear bel9 b9 h9 hf1 HV8 HU8 HB8 HV7
  go_wp2_with fail
  refine (bNodes_any w9 (.slice oo l2.length oc) l2 (unhide H9).n2 (by omega)).mono ?_
  rintro e w10 ⟨u, rfl, hu, b10⟩
  obtain ⟨uo2, uc2, huf⟩ := row_form hu
  subst huf
  have HV10 := hide (row_below (unhide HV9) b10)
  have HU10 := hide hu
  have HB10 := hide b10
  clear hu b10 q0 q1 q2 q3 q4 q5 q6 qz
  go_wp2_with fail
  refine (sameNodes_any w10 (.slice vo (nodesOf M).length vc) (.slice uo2 l2.length uc2) (nodesOf M) l2 (unhide HV10).base0 (unhide HU10).base0 (by omega) (by omega)).mono ?_
  rintro e w11 ⟨rfl, b11⟩
  have bel11 : Below w7.heap.size w7 w11 := (unhide HB9).trans (((unhide HB10).trans (b11.mono (unhide HB10).size)).mono (unhide HB9).size)
  have bel6' : Below w6.heap.size w6 w11 := (unhide HB7).trans (bel11.mono (unhide HB7).size)
  have hke := keep_st w6 w11 B bw w.heap.size (.pointer none) (.slice bo l.length bc) (.slice oo l2.length oc) tw br lsv l l2 XL (.slice vo (nodesOf M).length vc) (nodesOf M) (unhide H6) bel6' (row_below (unhide HV10) b11) (by omega) (by have := (unhide HS3).base; omega) hBw (by omega)
  have HKE := hide hke
  obtain ⟨f2, hf2⟩ : ∃ f2, f2 = sameN (nodesOf M) l2 := ⟨_, rfl⟩
  rw [← hf2]
  have HF2 := hide hf2
  clear bel11 bel6' b11 hke hf2 HV9 HV10 HU10 HB10 HB9 HB7 H7 H9
  go_wp2_with fail
  refine (unhide HKE).mono ?_
  rintro e w12 ⟨rfl, ls2, X2, h12, hx2, k12, sz12, b12⟩
  obtain ⟨⟨q0, q1, q2, q3, q4, q5, q6⟩, qz⟩ := bcell h12.own
  have kk : KeepsT Sty w3 w12 := keepsT_trans (KeepsT.below (unhide HB6)) k12
  have hsz312 : w3.heap.size ≤ w12.heap.size := Nat.le_trans sz6 sz12
  have bB12 : Below B w w12 := ((unhide HB3).trans ((unhide HB6).mono (unhide HS3).base)).trans b12
  have BA12 := hide ((unhide HBA3).keepU kk)
  have S12 := hide ((unhide HS3).keepU hsz312 kk)
  have HB12 := hide bB12
  have H12 := hide h12
  clear h12 k12 b12 kk bB12 HKE
  have hcase : (f1 = true ∧ nodesOf M = l) ∨ (f1 = false ∧ f2 = true ∧ tw = true ∧ nodesOf M = l2) := by
    by_cases hq : nodesOf M = l
    · exact .inl ⟨by rw [unhide HF1]; exact (sameN_iff _ _).2 hq, hq⟩
    · have hf : f1 = false := by
        cases hf : f1 with
        | false => rfl
        | true => exact absurd ((sameN_iff _ _).1 ((unhide HF1).symm.trans hf)) hq
      rcases unhide HO7 with e | ⟨e1, e2⟩
      · exact absurd e hq
      · exact .inr ⟨hf, by rw [unhide HF2]; exact (sameN_iff _ _).2 e2, e1, e2⟩
  have fz1 := qz 1
  have fz2 := qz 2
  have fz4 := qz 4
  have fz5 := qz 5
  rcases hcase with ⟨rfl, hMl1⟩ | ⟨rfl, rfl, rfl, hMl2⟩
  · obtain ⟨W, hW⟩ : ∃ W, W = ((w12.setCell ⟨bw, 1, none⟩ (.pointer (some ⟨bb, 0, none⟩))).setCell ⟨bw, 4, none⟩ (.bool false)).setCell ⟨bw, 5, none⟩ (.bool false) := ⟨_, rfl⟩
    have stW := (unhide H12).set3 (.pointer (some ⟨bb, 0, none⟩))
    have kW := (unhide H12).keeps3 (.pointer (some ⟨bb, 0, none⟩))
    have szW : W.heap.size = w12.heap.size := by rw [hW]; simp [World.setCell]
    have bW : Below B w W := by rw [hW]; exact (((unhide HB12).setCell (p := ⟨bw, 1, none⟩) hBw _).setCell (p := ⟨bw, 4, none⟩) hBw _).setCell (p := ⟨bw, 5, none⟩) hBw _
    rw [← hW] at stW kW
    rw [← hMl1] at stW
    have baW := (unhide BA12).keepU kW
    have sW := (unhide S12).keepU (by omega) kW
    have hnod := nodes_of W B bb wB.heap.size w.heap.size bs1 N lv3 D M baW sW (unhide HO6) hN
    have HNW := hide hnod
    have HSTW := hide stW
    have HBAW := hide baW
    have HSW := hide sW
    have HBW := hide bW
    clear hnod stW kW baW sW bW hMl1
    go_wp2_with fail
    rw [← hW]
    clear hW q0 q1 q2 q3 q4 q5 q6 qz fz1 fz2 fz4 fz5
    refine (unhide HNW).mono ?_
    rintro e w13 ⟨v13, rfl, hv13, b13⟩
    obtain ⟨vo13, vc13, hvf⟩ := row_form hv13
    subst hvf
    have h13 := (unhide HSTW).below b13
    obtain ⟨⟨q0, q1, q2, q3, q4, q5, q6⟩, qz⟩ := bcell h13.own
    have H13 := hide h13
    have HV13 := hide hv13
    have HB13 := hide b13
    clear h13 hv13 b13
    go_wp2_with fail
    refine (bNodes_any w13 (.slice bo (nodesOf M).length bc) (nodesOf M) (unhide H13).n1 (by omega)).mono ?_
    rintro e w14 ⟨u, rfl, hu, b14⟩
    obtain ⟨uo4, uc4, huf⟩ := row_form hu
    subst huf
    have HV14 := hide (row_below (unhide HV13) b14)
    have HU14 := hide hu
    have HB14 := hide ((unhide HB13).trans (b14.mono (unhide HB13).size))
    clear hu b14 q0 q1 q2 q3 q4 q5 q6 qz
    go_wp2_with fail
    refine (sameNodes_any w14 (.slice vo13 (nodesOf M).length vc13) (.slice uo4 (nodesOf M).length uc4) (nodesOf M) (nodesOf M) (unhide HV14).base0 (unhide HU14).base0 (by omega) (by omega)).mono ?_
    rintro e w15 ⟨rfl, b15⟩
    have b15' : Below W.heap.size W w15 := (unhide HB14).trans (b15.mono (unhide HB14).size)
    have hke := keep_st W w15 B bw w.heap.size (.pointer (some ⟨bb, 0, none⟩)) (.slice bo (nodesOf M).length bc) (.slice oo l2.length oc) false false ls2 (nodesOf M) l2 X2 (.slice vo13 (nodesOf M).length vc13) (nodesOf M) (unhide HSTW) b15' (row_below (unhide HV14) b15) (by omega) (by have := (unhide HSW).base; omega) hBw (by omega)
    have HKE := hide hke
    rw [(sameN_iff (nodesOf M) (nodesOf M)).2 rfl]
    clear hke b15 b15' HV13 HV14 HU14 HB13 HB14
    go_wp2_with fail
    refine (unhide HKE).mono ?_
    rintro e w16 ⟨rfl, ls3, X3, h16, hx3, k16, sz16, b16⟩
    have HP := hide (show BAt w16 bb wB.heap.size false ∧ Sys w16 B wB.heap.size w.heap.size bs1 (.slice none 0 0) lv3 [] false D ∧ St w16 B bw w.heap.size (.pointer (some ⟨bb, 0, none⟩)) (.slice bo (nodesOf M).length bc) (.slice oo l2.length oc) false false ls3 (nodesOf M) l2 X3 ∧ X3.length = XL.length + 8 ∧ Below B w w16 from ⟨(unhide HBAW).keepU k16, (unhide HSW).keepU sz16 k16, h16, by omega, (unhide HBW).trans b16⟩)
    clear h16 k16 b16 HKE
    go_wp2_with fail
    go_ret
    exact ⟨D, M, bb, wB.heap.size, w.heap.size, bs1, lv3, _, ls3, X3, rfl, unhide HO8, unhide HO6, (unhide HP).1, hBb, (unhide HP).2⟩
  · obtain ⟨W, hW⟩ : ∃ W, W = (((w12.setCell ⟨bw, 2, none⟩ (.slice oo l2.length oc)).setCell ⟨bw, 1, none⟩ (.pointer (some ⟨bb, 0, none⟩))).setCell ⟨bw, 4, none⟩ (.bool false)).setCell ⟨bw, 5, none⟩ (.bool false) := ⟨_, rfl⟩
    have stV := (unhide H12).setB (unhide H12).n2
    have stW := stV.set3 (.pointer (some ⟨bb, 0, none⟩))
    have kW := keepsT_trans ((keepsT_set (unhide H12).own (i := 2) (u := .slice oo l2.length oc)).weak fun _ => sty_bases) (stV.keeps3 (.pointer (some ⟨bb, 0, none⟩)))
    have szW : W.heap.size = w12.heap.size := by rw [hW]; simp [World.setCell]
    have bW : Below B w W := by rw [hW]; exact ((((unhide HB12).setCell (p := ⟨bw, 2, none⟩) hBw _).setCell (p := ⟨bw, 1, none⟩) hBw _).setCell (p := ⟨bw, 4, none⟩) hBw _).setCell (p := ⟨bw, 5, none⟩) hBw _
    rw [← hW] at stW kW
    have stW : St W B bw w.heap.size (.pointer (some ⟨bb, 0, none⟩)) (.slice oo l2.length oc) (.slice oo l2.length oc) false false ls2 (nodesOf M) l2 X2 := by rw [hMl2]; exact stW
    have baW := (unhide BA12).keepU kW
    have sW := (unhide S12).keepU (by omega) kW
    have hnod := nodes_of W B bb wB.heap.size w.heap.size bs1 N lv3 D M baW sW (unhide HO6) hN
    have HNW := hide hnod
    have HSTW := hide stW
    have HBAW := hide baW
    have HSW := hide sW
    have HBW := hide bW
    clear hnod stV stW kW baW sW bW hMl2
    go_wp2_with fail
    rw [← hW]
    clear hW q0 q1 q2 q3 q4 q5 q6 qz fz1 fz2 fz4 fz5
    refine (unhide HNW).mono ?_
    rintro e w13 ⟨v13, rfl, hv13, b13⟩
    obtain ⟨vo13, vc13, hvf⟩ := row_form hv13
    subst hvf
    have h13 := (unhide HSTW).below b13
    obtain ⟨⟨q0, q1, q2, q3, q4, q5, q6⟩, qz⟩ := bcell h13.own
    have H13 := hide h13
    have HV13 := hide hv13
    have HB13 := hide b13
    clear h13 hv13 b13
    go_wp2_with fail
    refine (bNodes_any w13 (.slice oo l2.length oc) (nodesOf M) (unhide H13).n1 (by omega)).mono ?_
    rintro e w14 ⟨u, rfl, hu, b14⟩
    obtain ⟨uo4, uc4, huf⟩ := row_form hu
    subst huf
    have HV14 := hide (row_below (unhide HV13) b14)
    have HU14 := hide hu
    have HB14 := hide ((unhide HB13).trans (b14.mono (unhide HB13).size))
    clear hu b14 q0 q1 q2 q3 q4 q5 q6 qz
    go_wp2_with fail
    refine (sameNodes_any w14 (.slice vo13 (nodesOf M).length vc13) (.slice uo4 (nodesOf M).length uc4) (nodesOf M) (nodesOf M) (unhide HV14).base0 (unhide HU14).base0 (by omega) (by omega)).mono ?_
    rintro e w15 ⟨rfl, b15⟩
    have b15' : Below W.heap.size W w15 := (unhide HB14).trans (b15.mono (unhide HB14).size)
    have hke := keep_st W w15 B bw w.heap.size (.pointer (some ⟨bb, 0, none⟩)) (.slice oo l2.length oc) (.slice oo l2.length oc) false false ls2 (nodesOf M) l2 X2 (.slice vo13 (nodesOf M).length vc13) (nodesOf M) (unhide HSTW) b15' (row_below (unhide HV14) b15) (by omega) (by have := (unhide HSW).base; omega) hBw (by omega)
    have HKE := hide hke
    rw [(sameN_iff (nodesOf M) (nodesOf M)).2 rfl]
    clear hke b15 b15' HV13 HV14 HU14 HB13 HB14
    go_wp2_with fail
    refine (unhide HKE).mono ?_
    rintro e w16 ⟨rfl, ls3, X3, h16, hx3, k16, sz16, b16⟩
    have HP := hide (show BAt w16 bb wB.heap.size false ∧ Sys w16 B wB.heap.size w.heap.size bs1 (.slice none 0 0) lv3 [] false D ∧ St w16 B bw w.heap.size (.pointer (some ⟨bb, 0, none⟩)) (.slice oo l2.length oc) (.slice oo l2.length oc) false false ls3 (nodesOf M) l2 X3 ∧ X3.length = XL.length + 8 ∧ Below B w w16 from ⟨(unhide HBAW).keepU k16, (unhide HSW).keepU sz16 k16, h16, by omega, (unhide HBW).trans b16⟩)
    clear h16 k16 b16 HKE
    go_wp2_with fail
    go_ret
    exact ⟨D, M, bb, wB.heap.size, w.heap.size, bs1, lv3, _, ls3, X3, rfl, unhide HO8, unhide HO6, (unhide HP).1, hBb, (unhide HP).2⟩
end Go.Proofs.YtcbindgpbeaebaaGreatDoor

namespace Go.Proofs.YtcbindgpbeaebaaGreatDoor
open Go.RowKit Go.Deep

theorem Holds.stands {S : List ByteArray} {pend : Option (List (Nat × ByteArray))} {d D : Dk} (h : Holds S pend D) (h0 : Stands S pend d) : Stands S pend D := by
  obtain ⟨hl, ho⟩ := h
  cases pend with
  | none =>
    rcases ho with ho | ⟨ps, e, _⟩
    · exact ⟨hl, ho⟩
    · cases e
  | some ps =>
    refine ⟨Pend.none ?_ hl, h0.2⟩
    rcases ho with ho | ⟨qs, e, ho⟩
    · exact .inl ho
    · cases e
      exact .inr (.inr ho)
theorem opens_binv (w : World) (B bw N k : Nat) (h : BInvE w B bw N k) (hk9 : k ≤ 1048576) (hN : 300 ≤ N) :
    Calls Tryz.prog 35 #[.pointer (some ⟨bw, 0, none⟩)] w fun e w' => e = .returned (.bool true) ∧ BKp w B bw N k w' := by
  obtain ⟨bd, bs, xv, bv, ov, lv, d, tw, br, lsv, l2, X, S, pend, M, h⟩ := h
  have hn := h.n
  have hsn := h.sn
  have hfl := h.fl
  have hxl := h.xl
  have hl2 := h.late
  obtain ⟨psR, a1, a2, a3, a4, a5, a6, a7, a8, a9⟩ := open_stands d S pend h.ok (by omega) (by omega) (by omega) h.stn
  have fc : ∀ c, ({ d with cap := c } : Dk).flush = (d.flush.1, { d.flush.2 with cap := c }) := fun c => Dk.flush_wc d c
  have rc : ∀ c, ({ d with cap := c } : Dk).redo psR = ((d.redo psR).1, { (d.redo psR).2 with cap := c }) := fun c => Dk.redo_wc d c psR
  have oin : ∀ c, OpenIn { d with cap := c } psR := fun c => ⟨a1, a2, by rw [fc c]; exact a3, by rw [fc c]; simp only [inRoom_cap]; exact a4⟩
  have hfail : ((d.redo psR).1 = false ∨ (d.redo psR).2.life = 0) → Stands S pend (d.redo psR).2 → (d.failed < (d.redo psR).2.failed ∨ (d.redo psR).2.life = 0) → Calls Tryz.prog 35 #[.pointer (some ⟨bw, 0, none⟩)] w fun e w' => e = .returned (.bool true) ∧ BKp w B bw N k w' := fun q1 q2 q3 => by
    refine (bopens_fail w B bw bd bs xv bv ov lv d tw br lsv (nodesOf M) l2 X (fun D => D.Ok ∧ D.failed ≤ d.failed + 1 ∧ D.safe.length = N ∧ D.late.length ≤ 200 ∧ Stands S pend D) h.disk h.st h.hB h.bw0 h.ok (by omega) (by omega) ?_).mono ?_
    · intro c
      exact ⟨psR, (d.redo psR).1, { (d.redo psR).2 with cap := c }, oin c, rc c, q1, q3, by simp only; omega, a5.cap c, a6, by simp only; omega, by simp only; omega, q2.cap c⟩
    · rintro e w' ⟨D, bd', bs', lv', rfl, ⟨x1, x2, x3, x4, x5⟩, hd, hst, hb, b1, b2, b3⟩
      refine ⟨rfl, ⟨bd', bs', .pointer none, bv, ov, lv', D, tw, br, lsv, l2, X, S, pend, M, ?_⟩, hb⟩
      exact { st := hst, disk := hd, hB := Nat.le_trans h.hB hb.size, bw0 := h.bw0, bd0 := b1, bs0 := b2, lv0 := b3, ok := x1, fl := by omega, xl := by omega, n := x3, sn := hsn, late := x4, stn := x5, cont := h.cont, l2l := h.l2l, two := h.two, base := .inl rfl }
  rcases a9 with ⟨q1, q2, q3⟩ | ⟨q1, q2⟩
  · exact hfail (.inl q1) q2 q3
  · by_cases hz : (d.redo psR).2.life = 0
    · exact hfail (.inr hz) (q2.stands h.stn) (.inr hz)
    · have hlife : (d.life == 0) = false := by
        cases hz : (d.life == 0) with
        | false => rfl
        | true =>
          have hz : d.life = 0 := by simpa using hz
          have hc : d.changes.1 = false := by simp [Dk.changes, hz]
          have hff : d.flush.1 = false := by simp [Dk.flush, hc]
          simp [Dk.redo, hff] at q1
      have hclr : rd (d.redo psR).2.safe 0 = pad (recB []) := by
        rcases q2.2 with q3 | ⟨_, _, q3⟩
        · exact q3.1
        · exact q3.1
      obtain ⟨M1, hM1, hk1⟩ : ∃ M1, Cont (d.redo psR).2.safe M1 ∧ (nodesOf M1 = nodesOf M ∨ (tw = true ∧ nodesOf M1 = l2)) := by
        rcases q2.2 with q3 | ⟨ps, hp, q3⟩
        · exact ⟨M, h.cont.outA q3 (by omega), .inl rfl⟩
        · obtain ⟨M2, e1, e2⟩ := h.two.2 ps hp
          have hst := h.stn
          rw [hp] at hst
          refine ⟨M2, e1.outC h.cont hst.2.2.2.2 q3 (by omega), .inr ⟨?_, e2.symm⟩⟩
          cases htw : tw with
          | true => rfl
          | false => rw [h.two.1 htw] at hp; cases hp
      refine (bopens_ok w B bw bd bs N xv bv ov lv d tw br lsv (nodesOf M) l2 X (fun D _ => D.failed ≤ d.failed + 1) h.disk h.st h.hB h.bw0 h.ok hn hN (by omega) h.len h.l2l (by omega) hlife ?_).mono ?_
      · intro c
        refine ⟨psR, { (d.redo psR).2 with cap := c }, M1, oin c, by rw [rc c, q1], ⟨hz, a5.cap c, by simp only; omega, q2.1, hclr, hM1⟩, hk1, a6⟩
      · rintro e w' ⟨D, M', bb', bl', bd', bs', lv', bvn, ls2, X2, rfl, x1, o, hba, hbb, hsy, hst, hx2, hb⟩
        refine ⟨rfl, ⟨bd', bs', .pointer (some ⟨bb', 0, none⟩), bvn, ov, lv', D, false, false, ls2, l2, X2, D.safe, none, M', ?_⟩, hb⟩
        exact { st := hst, disk := hsy.disk, hB := hsy.base, bw0 := h.bw0, bd0 := hsy.sep.bd0, bs0 := hsy.sep.bs0, lv0 := hsy.sep.bv0, ok := o.ok, fl := by omega, xl := by omega, n := o.n, sn := o.n, late := by rw [o.late]; simp, stn := ⟨o.late, o.clr, fun _ _ => rfl⟩, cont := o.cont, l2l := h.l2l, two := ⟨fun _ => rfl, fun ps e => by cases e⟩, base := .inr ⟨bb', bl', false, rfl, hba, hbb, hsy, fun _ => ⟨rfl, rfl⟩⟩ }

theorem step_binv (w : World) (B bw N k : Nat) (h : BInvE w B bw N k) (hk9 : k ≤ 1048576) (hN : 300 ≤ N) (kd n : Int) (s : ByteArray) (lo : Option Addr) (ln lc : Nat) (ko : Option Addr) (kn kc : Nat) (ks : List Int) (L : List Dd) (hn : n ≤ 9223372036854775807) (hsz : s.size ≤ 4611686018427387903)
    (hk : IntsAt w (.slice ko kn kc) ks) (hkl : ∀ b o m c, Value.slice ko kn kc = .slice (some ⟨b, o, none⟩) m c → 0 < m → b < B)
    (hv : DIn w (.slice lo ln lc) L) (hL : L.length ≤ 2000000) (hpz : ∀ x ∈ L, x.node.path.size ≤ 4611686018427387903) (hlow : ∀ b o n c, Value.slice lo ln lc = .slice (some ⟨b, o, none⟩) n c → 0 < n → b < B) :
    Calls Tryz.prog 13 #[.pointer (some ⟨bw, 0, none⟩), .agg #[.int .i64 kd, .int .i64 n, .string s, .slice lo ln lc, .slice ko kn kc]] w fun e w' => e = .returned (.bool true) ∧ BKp w B bw N k w' := by
  have hE := h
  obtain ⟨bd, bs, xv, bv, ov, lv, d, tw, br, lsv, l2, X, S, pend, M, h⟩ := h
  have hbw := lt_of_heap h.st.own
  obtain ⟨⟨x0, x1, _⟩, xz⟩ := bcell h.st.own
  have ha : ∀ o, BInv (w.alloc o) B bw N k bd bs xv bv ov lv d tw br lsv l2 X S pend M := fun o => h.below (below_new w o)
  have hb : ∀ o, Below B w (w.alloc o) := fun o => (below_new w o).mono h.hB
  have hd : ∀ o, BInv (w.alloc o).drew B bw N k bd bs xv bv ov lv d tw br lsv l2 X S pend M := fun o => (ha o).below (Below.refl _ _).drew
  by_cases k1 : kd = 1
  · subst k1
    refine bstep_open w bw n s lo ln lc ko kn kc (BKp w B bw N k) fun o => (opens_binv (w.alloc o) B bw N k (hE.below (below_new w o)) hk9 hN).mono ?_
    rintro e w' ⟨he, hi⟩
    exact ⟨he, hi.from (hb o)⟩
  by_cases k2 : kd = 11
  · subst k2
    refine bstep_fail w bw bd n s lo ln lc ko kn kc (BKp w B bw N k) hbw x0 fun o => (fail_binv (w.alloc o).drew B bw N k bd bs xv bv ov lv d tw br lsv l2 X S pend M (hd o) n hn).mono ?_
    rintro e w' ⟨he, hi⟩
    exact ⟨he, hi.from (hb o).drew⟩
  by_cases k3 : kd = 12
  · subst k3
    refine bstep_die w bw bd n s lo ln lc ko kn kc (BKp w B bw N k) hbw x0 fun o => (die_binv (w.alloc o).drew B bw N k bd bs xv bv ov lv d tw br lsv l2 X S pend M (hd o) n hn).mono ?_
    rintro e w' ⟨he, hi⟩
    exact ⟨he, hi.from (hb o).drew⟩
  by_cases k4 : kd = 13
  · subst k4
    have hc : ∀ o, BInv ((w.setCell ⟨bw, 1, none⟩ (.pointer none)).alloc o).drew B bw N k bd bs (.pointer none) bv ov lv d tw br lsv l2 X S pend M := fun o => (h.noBase.below (below_new _ o)).below (Below.refl _ _).drew
    have hcb : ∀ o, Below B w ((w.setCell ⟨bw, 1, none⟩ (.pointer none)).alloc o).drew := fun o => (((Below.refl B w).setCell h.bw0 _).alloc h.noBase.hB o).drew
    refine bstep_crash w bw bd n s lo ln lc ko kn kc (BKp w B bw N k) hbw x0 _ x1 xz fun o => (crash_binv _ B bw N k bd bs (.pointer none) bv ov lv d tw br lsv l2 X S pend M (hc o) (.slice ko kn kc) ks (hk.under (hcb o) hkl) hkl).mono ?_
    rintro e w' ⟨he, hi⟩
    exact ⟨he, hi.from (hcb o)⟩
  have hrest : ∀ (e : Ending) (w' : World), (e = .returned (.bool true) ∧ ∃ o, w' = w.alloc o) → e = .returned (.bool true) ∧ BKp w B bw N k w' := by
    rintro e w' ⟨he, o, rfl⟩
    exact ⟨he, ⟨bd, bs, xv, bv, ov, lv, d, tw, br, lsv, l2, X, S, pend, M, (ha o).more (by omega)⟩, hb o⟩
  rcases h.base with hx | ⟨bb, bl, brk, hx, hba, hbb, hsy, hbt⟩
  · rw [hx] at x1
    exact (bstep_nil w bw kd n s lo ln lc ko kn kc hbw x1 (by simpa using k1) (by simpa using k2) (by simpa using k3) (by simpa using k4)).mono hrest
  subst hx
  by_cases j2 : kd = 2
  · subst j2
    refine bstep_does w bw bb n s lo ln lc ko kn kc (BKp w B bw N k) hbw x1 fun o => ?_
    have hbo := below_new w o
    have ba := hba.keepU (KeepsT.below hbo)
    have sa := hsy.keepU hbo.size (KeepsT.below hbo)
    have hva := hv.below hbo
    by_cases hz : d.life = 0 ∨ br = true
    · refine (does_bad (w.alloc o) B bw N k bd bs bb bl bv ov lv d tw br brk lsv l2 X S pend M (ha o) hN ba hbb sa hbt hz (.slice lo ln lc) L hva hL hpz hlow).mono ?_
      rintro e w' ⟨he, hi⟩
      exact ⟨he, hi.from (hb o)⟩
    · have hli : d.life ≠ 0 := fun e => hz (.inl e)
      have hbr : br = false := by
        cases br
        · rfl
        · exact absurd (.inr rfl) hz
      obtain ⟨hbk, htw⟩ := hbt hbr
      rw [hbr] at ba
      rw [hbk] at sa
      refine (does_well (w.alloc o) B bw N k bd bs bb bl bv ov lv d tw br lsv l2 X S pend M (ha o) hN hk9 ba hbb sa htw hbr hli (.slice lo ln lc) L hva hL hpz hlow).mono ?_
      rintro e w' ⟨he, hi⟩
      exact ⟨he, hi.from (hb o)⟩
  by_cases j3 : kd = 3
  · subst j3
    exact nodes_binv w B bw N k bd bs bb bl bv ov lv d tw br brk lsv l2 X S pend M h hN hk9 hba hbb hsy hbt n s lo ln lc ko kn kc
  by_cases j4 : kd = 4
  · subst j4
    exact read_binv w B bw N k bd bs bb bl bv ov lv d tw br brk lsv l2 X S pend M h hN hba hsy hbt n s hsz lo ln lc ko kn kc
  exact (bstep_other w bw bb bd bs lv d kd n s lo ln lc ko kn kc hbw h.disk x0 x1 (by simpa using k1) (by simpa using k2) (by simpa using k3) (by simpa using k4) (by simpa using j2) (by simpa using j3) (by simpa using j4)).mono hrest
end Go.Proofs.YtcbindgpbeaebaaGreatDoor

namespace Go.Proofs.YtcbindgpbeaebaaGreatDoor
open Go.RowKit Go.Deep
attribute [local go_sem ↓] Go.wp_at_zero Go.wp_at_succ

/-- What stands between two steps of the law, on a disk that is too small for a base. -/
structure BSm (w : World) (B bw : Nat) (bd : Nat) (sv lv : Value) (S : List ByteArray) (wt lf fd : Int) : Prop where
  disk : SAt w bd sv lv S wt lf fd
  own : w.heap[bw]? = some (.cells (bcells bd (.pointer none) (.slice none 0 0) (.slice none 0 0) false false (.slice none 0 0)) 33 (0, 0))
  hB : B ≤ w.heap.size
  bw0 : B ≤ bw
  bd0 : B ≤ bd
  n : S.length < 300
def BSmE (w : World) (B bw : Nat) : Prop := ∃ bd sv lv S wt lf fd, BSm w B bw bd sv lv S wt lf fd
theorem BSm.below {w w' : World} {B bw bd : Nat} {sv lv : Value} {S : List ByteArray} {wt lf fd : Int} (h : BSm w B bw bd sv lv S wt lf fd) (hb : Below w.heap.size w w') : BSm w' B bw bd sv lv S wt lf fd :=
  ⟨h.disk.below hb, (hb.block bw (lt_of_heap h.own)).trans h.own, Nat.le_trans h.hB hb.size, h.bw0, h.bd0, h.n⟩

set_option maxRecDepth 100000 in
set_option maxHeartbeats 1600000 in
theorem sbopen (w : World) (bd : Nat) (sv lv : Value) (S : List ByteArray) (wt lf fd : Int) (h : SAt w bd sv lv S wt lf fd) (hs : S.length < 300) : Calls Tryz.prog 32 #[.pointer (some ⟨bd, 0, none⟩)] w fun e w' => e = .returned (.tuple #[.pointer none, .int .i64 1]) ∧ w' = w := by
  have hbl := sblocks w bd sv lv S wt lf fd h
  have h300 : (S.length : Int) < 300 := by omega
  go_enter Tryz.func32, Tryz.ntmps32
  go_wp2_with fail
  refine hbl.mono ?_
  rintro e w1 ⟨rfl, e1⟩
  have e1 := e1.symm
  subst e1
  go_wp2_with fail
  go_ret2
  exact ⟨rfl, rfl⟩
set_option maxRecDepth 100000 in
set_option maxHeartbeats 1600000 in
theorem bopen_nil (w : World) : Calls Tryz.prog 32 #[.pointer none] w fun e w' => e = .returned (.tuple #[.pointer none, .int .i64 1]) ∧ w' = w := by
  go_enter Tryz.func32, Tryz.ntmps32
  go_wp2_with fail
  go_ret2
  exact ⟨rfl, rfl⟩

set_option maxRecDepth 100000 in
set_option maxHeartbeats 6400000 in
theorem bopens_small (w : World) (B bw bd : Nat) (sv lv : Value) (S : List ByteArray) (wt lf fd : Int) (h : BSm w B bw bd sv lv S wt lf fd) :
    Calls Tryz.prog 35 #[.pointer (some ⟨bw, 0, none⟩)] w fun e w' => e = .returned (.bool true) ∧ BSmE w' B bw ∧ Below B w w' := by
  obtain ⟨h, hw, hB, hBw, hBd, hs⟩ := h
  obtain ⟨⟨x0, x1, _, _, _, _, _⟩, xz⟩ := bcell hw
  have HW := hide hw
  clear hw
  go_enter Tryz.func35, Tryz.ntmps35
  go_wp2_with fail
  refine (scopy w bd sv lv S wt lf fd h (by omega)).mono ?_
  rintro e w1 ⟨sv1, lv1, rfl, d1, b1⟩
  have h1 := (b1.block bw (lt_of_heap (unhide HW))).trans (unhide HW)
  obtain ⟨⟨y0, y1, _, _, _, _, _⟩, yz⟩ := bcell h1
  have dA := (d1.setOther h1 (by decide) (by decide) (by decide) 0 (.pointer (some ⟨w.heap.size, 0, none⟩)))
  have hA := heap_setCell_same w1 bw 0 _ _ (.pointer (some ⟨w.heap.size, 0, none⟩)) h1
  have dB := dA.setOther hA (by decide) (by decide) (by decide) 1 (.pointer none)
  have hBk := heap_setCell_same _ bw 1 _ _ (.pointer none) hA
  have bB := ((b1.mono hB).setCell hBw (.pointer (some ⟨w.heap.size, 0, none⟩)) (p := ⟨bw, 0, none⟩)).setCell hBw (.pointer none) (p := ⟨bw, 1, none⟩)
  have s01 := b1.size
  have HDB := hide dB
  have HBK := hide hBk
  have HBB := hide bB
  clear dA hA dB hBk bB h1 d1 b1 x0 x1 xz
  go_wp2_with fail
  generalize hWB : (w1.setCell ⟨bw, 0, none⟩ (.pointer (some ⟨w.heap.size, 0, none⟩))).setCell ⟨bw, 1, none⟩ (.pointer none) = wB at HDB HBK HBB ⊢
  clear hWB
  have hK : wB.heap[bw]? = some (.cells (bcells w.heap.size (.pointer none) (.slice none 0 0) (.slice none 0 0) false false (.slice none 0 0)) 33 (0, 0)) := by rw [unhide HBK]; rfl
  obtain ⟨⟨z0, z1, _, _, _, _, _⟩, zz⟩ := bcell hK
  have HK := hide hK
  clear hK y0 y1 yz HBK
  refine (sdead wB w.heap.size sv1 lv1 S wt lf fd (unhide HDB)).mono ?_
  rintro e w2 ⟨rfl, hw2⟩
  have hw2 := hw2.symm
  subst hw2
  go_wp2_with fail
  refine (sfailed wB w.heap.size sv1 lv1 S wt lf fd (unhide HDB)).mono ?_
  rintro e w2 ⟨rfl, hw2⟩
  have hw2 := hw2.symm
  subst hw2
  go_wp2_with fail
  refine (sbopen wB w.heap.size sv1 lv1 S wt lf fd (unhide HDB) hs).mono ?_
  rintro e w2 ⟨rfl, hw2⟩
  have hw2 := hw2.symm
  subst hw2
  go_wp2_with fail
  refine (sfailed wB w.heap.size sv1 lv1 S wt lf fd (unhide HDB)).mono ?_
  rintro e w2 ⟨rfl, hw2⟩
  have hw2 := hw2.symm
  subst hw2
  go_wp2_with fail
  refine (sdead wB w.heap.size sv1 lv1 S wt lf fd (unhide HDB)).mono ?_
  rintro e w2 ⟨rfl, hw2⟩
  have hw2 := hw2.symm
  subst hw2
  go_wp2_with fail
  refine (sblocks wB w.heap.size sv1 lv1 S wt lf fd (unhide HDB)).mono ?_
  rintro e w2 ⟨rfl, hw2⟩
  have hw2 := hw2.symm
  subst hw2
  have hmany : (S.length : Int) < 300 := by omega
  go_wp2_with fail
  go_ret
  exact ⟨rfl, ⟨w.heap.size, sv1, lv1, S, wt, lf, fd, ⟨unhide HDB, unhide HK, Nat.le_trans hB (unhide HBB).size, hBw, hB, hs⟩⟩, unhide HBB⟩

theorem BSm.only {w w' : World} {B bw bd : Nat} {sv lv lv' : Value} {S : List ByteArray} {wt lf fd wt' lf' fd' : Int} (h : BSm w B bw bd sv lv S wt lf fd) (hd : SAt w' bd sv lv' S wt' lf' fd') (st : DStep bd bd (.slice none 0 0) (.slice none 0 0) w w') : BSmE w' B bw ∧ Below B w w' := by
  have nb : bw ≠ bd := ty_ne h.own h.disk.own (by decide)
  exact ⟨⟨bd, sv, lv', S, wt', lf', fd', hd, (st.block bw (lt_of_heap h.own) nb nb (by simp [Value.ownBlock])).trans h.own, Nat.le_trans h.hB st.size, h.bw0, h.bd0, h.n⟩, st.below h.bd0 h.bd0 (by simp [Value.ownBlock]) h.hB⟩

theorem bstep_small (w : World) (B bw : Nat) (h : BSmE w B bw) (k n : Int) (s : ByteArray) (lo : Option Addr) (ln lc : Nat) (ko : Option Addr) (kn kc : Nat) :
    Calls Tryz.prog 13 #[.pointer (some ⟨bw, 0, none⟩), .agg #[.int .i64 k, .int .i64 n, .string s, .slice lo ln lc, .slice ko kn kc]] w fun e w' => e = .returned (.bool true) ∧ BSmE w' B bw ∧ Below B w w' := by
  obtain ⟨bd, sv, lv, S, wt, lf, fd, h⟩ := h
  have hbw := lt_of_heap h.own
  obtain ⟨⟨x0, x1, _⟩, xz⟩ := bcell h.own
  have ha : ∀ o, BSm (w.alloc o) B bw bd sv lv S wt lf fd := fun o => h.below (below_new w o)
  have hb : ∀ o, Below B w (w.alloc o) := fun o => (below_new w o).mono h.hB
  have hdw : ∀ o, BSm (w.alloc o).drew B bw bd sv lv S wt lf fd := fun o => (ha o).below (Below.refl _ _).drew
  by_cases k1 : k = 1
  · subst k1
    refine bstep_open w bw n s lo ln lc ko kn kc (fun w' => BSmE w' B bw ∧ Below B w w') fun o => (bopens_small (w.alloc o) B bw bd sv lv S wt lf fd (ha o)).mono ?_
    rintro e w' ⟨he, hi, hbb⟩
    exact ⟨he, hi, (hb o).trans hbb⟩
  by_cases k2 : k = 11
  · subst k2
    refine bstep_fail w bw bd n s lo ln lc ko kn kc (fun w' => BSmE w' B bw ∧ Below B w w') hbw x0 fun o => (sfail (w.alloc o).drew bd sv lv S wt lf fd (hdw o).disk n).mono ?_
    rintro e w' ⟨he, ⟨wt', hd⟩, st⟩
    obtain ⟨q1, q2⟩ := (hdw o).only hd st
    exact ⟨he, q1, (hb o).drew.trans q2⟩
  by_cases k3 : k = 12
  · subst k3
    refine bstep_die w bw bd n s lo ln lc ko kn kc (fun w' => BSmE w' B bw ∧ Below B w w') hbw x0 fun o => (sdie (w.alloc o).drew bd sv lv S wt lf fd (hdw o).disk n).mono ?_
    rintro e w' ⟨he, ⟨lf', hd⟩, st⟩
    obtain ⟨q1, q2⟩ := (hdw o).only hd st
    exact ⟨he, q1, (hb o).drew.trans q2⟩
  by_cases k4 : k = 13
  · subst k4
    have hset : BSm (w.setCell ⟨bw, 1, none⟩ (.pointer none)) B bw bd sv lv S wt lf fd := by
      refine ⟨h.disk.setOther h.own (by decide) (by decide) (by decide) 1 _, ?_, by simp [World.setCell]; exact h.hB, h.bw0, h.bd0, h.n⟩
      rw [heap_setCell_same w bw 1 _ _ _ h.own]; rfl
    have hc : ∀ o, BSm ((w.setCell ⟨bw, 1, none⟩ (.pointer none)).alloc o).drew B bw bd sv lv S wt lf fd := fun o => (hset.below (below_new _ o)).below (Below.refl _ _).drew
    have hcb : ∀ o, Below B w ((w.setCell ⟨bw, 1, none⟩ (.pointer none)).alloc o).drew := fun o => (((Below.refl B w).setCell h.bw0 _).alloc hset.hB o).drew
    refine bstep_crash w bw bd n s lo ln lc ko kn kc (fun w' => BSmE w' B bw ∧ Below B w w') hbw x0 _ x1 xz fun o => (scrash _ bd sv lv S wt lf fd (hc o).disk ko kn kc).mono ?_
    rintro e w' ⟨he, hd, st⟩
    obtain ⟨q1, q2⟩ := (hc o).only hd st
    exact ⟨he, q1, (hcb o).trans q2⟩
  refine (bstep_nil w bw k n s lo ln lc ko kn kc hbw x1 (by simpa using k1) (by simpa using k2) (by simpa using k3) (by simpa using k4)).mono ?_
  rintro e w' ⟨he, o, rfl⟩
  exact ⟨he, ⟨bd, sv, lv, S, wt, lf, fd, ha o⟩, hb o⟩
end Go.Proofs.YtcbindgpbeaebaaGreatDoor

namespace Go.Proofs.YtcbindgpbeaebaaGreatDoor
open Go.RowKit Go.Deep
attribute [local go_sem ↓] Go.wp_at_zero Go.wp_at_succ

/-- A new disk has no nodes. -/
theorem new_cont (N : Nat) : Cont (newDk N).safe [] := by
  refine ⟨⟨List.Pairwise.nil, by simp, by simp⟩, ⟨by simp, fun s hs n => ?_⟩, fun i hi => ?_⟩
  · have e : rd (newDk N).safe (90 + 2 * s) = pad ⟨#[]⟩ := by
      rw [rd_new]
      apply bytes_ext
      rw [pad_list, zs_list]
      rfl
    rw [e, dec_zero]
    simp
  · rw [rd_new, ← clr_zero]
    exact pad_size (by decide)
theorem new_out (N : Nat) (hN : N ≤ 4096) : OpenOut N (newDk N) [] := ⟨by show (-1 : Int) ≠ 0; decide, newDk_ok N hN, List.length_replicate, rfl, by rw [rd_new, clr_zero], new_cont N⟩
def rootN : Nd := ⟨⟨#[97]⟩, 1, 5, 7, ⟨#[120]⟩⟩
theorem root_ok : okDeeds [⟨false, rootN⟩] = true := by decide +kernel
theorem root_err : rPutErr [] rootN = 0 := by decide +kernel
theorem root_do : rDo [] [⟨false, rootN⟩] = ([rootN], 0) := by
  unfold rDo
  rw [if_pos root_ok]
  unfold rAll
  rw [rOne_ok root_err]
  rfl
theorem root_read : rRead ⟨#[97]⟩ [rootN] = .tuple #[ndV rootN, .int .i64 0] := by
  unfold rRead
  rw [if_pos (by decide +kernel)]
  rfl
theorem root_sum {c : Int} {br' : Bool} {d' : Dk} (h : DoEnd [] [⟨false, rootN⟩] (newDk 300) c br' d') : c = 0 ∧ br' = false ∧ ∃ M, OpenOut 300 d' M ∧ nodesOf M = [rootN] := by
  have hN : (newDk 300).safe.length = 300 := List.length_replicate
  have hw : d'.Well ∧ br' = false := by
    rcases h with ⟨_, _, hb, hd⟩ | ⟨_, hb, hd, _⟩ | ⟨_, M1, ps1, _, hc, hb, hd⟩
    · exact ⟨hd ▸ newDk_well 300, hb⟩
    · exact ⟨hd ▸ newDk_well 300, hb⟩
    · obtain ⟨c1, c2, c3⟩ := commit_well (newDk_well 300) ps1
      exact ⟨hd ▸ c3, hb.trans c2⟩
  have hs := h.sum (new_cont 300) (newDk_ok 300 (by omega)) rfl (by rw [rd_new, clr_zero]) (by show (0 : Int) + 1 ≤ _; omega) (by omega)
  cases hs with
  | err e0 e9 ed eb er =>
    have er' : rDo [] [⟨false, rootN⟩] = ([], c) := er
    rw [root_do] at er'
    exact absurd (congrArg Prod.snd er').symm e0
  | ok M1 e0 eb er ec el eclr eok ef en =>
    have er' : rDo [] [⟨false, rootN⟩] = (nodesOf M1, 0) := er
    rw [root_do] at er'
    exact ⟨e0, eb, M1, ⟨by rw [hw.1.2]; decide, eok, by omega, el, eclr, ec⟩, (congrArg Prod.fst er').symm⟩
  | bad M1 ps e9 eb _ _ _ _ _ _ _ _ _ _ _ _ =>
    rw [hw.2] at eb
    cases eb
theorem deed_one {w : World} {b cap : Nat} {x : Dd} (h : w.heap[b]? = some (.cells (ddC x).toArray 79 (0, 0))) : DsAt w (.slice (some ⟨b, 0, none⟩) 1 cap) [x] := by
  refine ⟨some ⟨b, 0, none⟩, cap, rfl, fun _ => ⟨b, _, rfl, h, fun i y hi j v hj => ?_⟩⟩
  match i, hi with
  | 0, hi =>
    rw [← Option.some.inj hi] at hj
    simpa using hj
theorem read_of (w : World) (B bb bl bd bs N : Nat) (lv : Value) (D : Dk) (M : List Pl) (q : ByteArray) (hq : q.size ≤ 4611686018427387903) (hb : BAt w bb bl false) (s : Sys w B bl bd bs (.slice none 0 0) lv [] false D) (ho : OpenOut N D M) (hN : 300 ≤ N) :
    Calls Tryz.prog 34 #[.pointer (some ⟨bb, 0, none⟩), .string q] w fun e w' => e = .returned (rRead q (nodesOf M)) ∧ Below w.heap.size w w' := by
  have hn := ho.n
  have hM := ho.cont.mo.len
  have hv := getL_vw (d := D) (by omega) ho.late ho.life ho.cont.sz
  rw [← rdRes_eq]
  refine read_load w bb q M (by omega) ho.cont.mo.ord (by omega) fun w1 h1 => ?_
  have s1 := s.keepU h1.size (KeepsT.below h1)
  have hld := load_ok w1 bb bl bd bs (.slice none 0 0) lv [] false D (vw D) (hb.keepU (KeepsT.below h1)) s1.log s1.disk ho.ok.n (by rw [ho.late]; simp) (by simp) hv
  rw [ho.cont.load] at hld
  exact hld

set_option maxRecDepth 100000 in
set_option maxHeartbeats 8000000 in
theorem rooted_any (w : World) : Calls Tryz.prog 11 #[] w fun e w' => e = .returned (.bool true) ∧ Below w.heap.size w w' := by
  have hlen0 : (newDk 300).safe.length = 300 := List.length_replicate
  have HL0 := hide hlen0
  clear hlen0
  go_enter Tryz.func11, Tryz.ntmps11
  go_wp2_with fail
  refine (new_any _ 300 (by omega) (by omega)).mono ?_
  rintro e w1 ⟨bd, bs, rfl, h1, b1, lbd, lbs⟩
  have sz1 := b1.size
  have hop := bopen_any w1 w.heap.size bd bs (.slice none 0 0) (newDk 300) [] h1 sz1 lbd lbs (by simp [Value.ownBlock]) (newDk_ok 300 (by omega)) (by rw [unhide HL0]; omega) (by show (0 : Nat) ≤ _; omega) (fun _ => (new_opens 300).2) (by simp) (by simp) (by simp [inRoom])
  rw [(new_opens 300).1] at hop
  have HOP := hide hop
  clear hop
  go_wp2_with fail
  refine (unhide HOP).mono ?_
  rintro e w2 ⟨lv2, _, b2, ⟨bb, _, _, lbb, rfl, a2, s2⟩ | ⟨q, _⟩⟩
  rotate_left
  · exfalso
    rcases q with q | q
    · cases q
    · exact absurd q (by decide)
  have b02 : Below w.heap.size w w2 := b1.trans b2
  obtain ⟨bl, hbl⟩ : ∃ bl, bl = w1.heap.size := ⟨_, rfl⟩
  rw [← hbl] at a2 s2
  have hbb : w.heap.size ≤ bb := Nat.le_trans sz1 lbb
  have S2 := hide s2
  have A2 := hide a2
  have B02 := hide b02
  clear s2 a2 b2 b1 b02 h1 HOP hbl
  go_wp2_with fail
  refine (bopen_nil w2).mono ?_
  rintro e w3 ⟨rfl, hw3⟩
  have hw3 := hw3.symm
  subst hw3
  go_wp2_with fail
  obtain ⟨W3, hW3⟩ : ∃ W3, W3 = (w2.alloc (.cells #[.string ⟨#[97]⟩, .int .i64 1, .int .i64 5, .int .i64 7, .string ⟨#[120]⟩] 76)).alloc (.cells #[.bool false, .string ⟨#[97]⟩, .int .i64 1, .int .i64 5, .int .i64 7, .string ⟨#[120]⟩] 79) := ⟨_, rfl⟩
  have hbW : Below w2.heap.size w2 W3 := by rw [hW3]; exact (below_new w2 _).trans ((below_new _ _).mono (by simp))
  have hnW : W3.heap[w2.heap.size]? = some (.cells #[.string ⟨#[97]⟩, .int .i64 1, .int .i64 5, .int .i64 7, .string ⟨#[120]⟩] 76 (0, 0)) := by rw [hW3]; exact (Below.heap_alloc _ _ _ (by simp)).trans (heap_alloc_new w2 _)
  have hdW : W3.heap[w2.heap.size + 1]? = some (.cells (ddC ⟨false, rootN⟩).toArray 79 (0, 0)) := by rw [hW3]; exact heap_two' w2 _ _
  have sW := (unhide S2).keepU hbW.size (KeepsT.below hbW)
  have aW := (unhide A2).keepU (KeepsT.below hbW)
  have o3 := new_out 300 (by omega)
  have hdo := do_any W3 w.heap.size bb bl bd bs lv2 (newDk 300) (.slice (some ⟨w2.heap.size + 1, 0, none⟩) 1 1) [⟨false, rootN⟩] aW hbb sW o3.ok (by rw [unhide HL0]; omega) rfl o3.life o3.cont.sz (deed_one hdW) (fun x hx => by simp only [List.mem_singleton] at hx; subst hx; decide) (by simp)
  rw [o3.cont.load] at hdo
  have HDO := hide hdo
  have HSW := hide sW
  have HAW := hide aW
  have HNW := hide hnW
  have HB3 := hide ((unhide B02).trans (hbW.mono (unhide B02).size))
  have sz3 := (unhide HB3).size
  clear hdo sW aW o3 hdW hnW hbW S2 A2 B02
  rw [← hW3]
  clear hW3
  refine (unhide HDO).mono ?_
  rintro e w4 ⟨c, lv4, br4, d4, rfl, a4, s4, b4, st4, de4⟩
  obtain ⟨rfl, rfl, M, o4, hM⟩ := root_sum de4
  have hn4 : w4.heap[w2.heap.size]? = some (.cells #[.string ⟨#[97]⟩, .int .i64 1, .int .i64 5, .int .i64 7, .string ⟨#[120]⟩] 76 (0, 0)) := by
    obtain ⟨cs, hbs, _⟩ := (unhide HSW).disk.sb
    have hc := unhide HNW
    exact (st4.block w2.heap.size (lt_of_heap hc) (ty_ne hc (unhide HAW).own (by decide)) (ty_ne hc (unhide HSW).log.own (by decide)) (ty_ne hc (unhide HSW).disk.own (by decide)) (ty_ne hc hbs (by decide)) (ownsRow_ne (unhide HSW).disk.late hc (by decide))).trans hc
  have HN4 := hide hn4
  have HS4 := hide s4
  have HB4 := hide ((unhide HB3).trans b4)
  have HO4 := hide o4
  have HM := hide hM
  have ln4 : w2.heap.size < w4.heap.size := lt_of_heap hn4
  have sz4 := (unhide HB4).size
  clear hn4 s4 b4 o4 hM a4 st4 de4 HDO HSW HAW HNW HB3
  go_wp2_with fail
  refine (copy_any w4 bd bs lv4 d4 (unhide HS4).disk (by rw [(unhide HO4).n]; omega) (unhide HO4).ok.n (by rw [(unhide HO4).late]; simp)).mono ?_
  rintro e w5 ⟨bs5, lv5, c5, rfl, d5, b5, lb5, lvb5⟩
  have HD5 := hide d5
  have HB5 := hide b5
  have sz5 := b5.size
  clear d5 b5
  go_wp2_with fail
  refine (crash_any w5 w4.heap.size bs5 lv5 (.slice none 0 0) { d4 with cap := c5 } [] (unhide HD5) ((unhide HO4).ok.cap c5) (by show d4.late.length ≤ _; rw [(unhide HO4).late]; simp) ⟨⟨none, 0, rfl, fun i c h => by simp at h⟩, by simp⟩ (fun b o n c e => by simp at e)).mono ?_
  rintro e w6 ⟨lv6, rfl, d6, st6⟩
  obtain ⟨E, hE, oE, iE, rE⟩ := (unhide HO4).crash c5
  rw [hE] at d6
  have b6 := st6.below (B := w4.heap.size) (Nat.le_refl _) lb5 lvb5 sz5
  have fr6 : ∀ g, lv6.ownBlock = some g → w4.heap.size ≤ g := fun g hg => by
    rcases st6.fresh g hg with e | e
    · exact lvb5 g e
    · omega
  have sz6 := b6.size
  have HB6 := hide ((unhide HB5).trans b6)
  have hop := bopen_any w6 w4.heap.size w4.heap.size bs5 lv6 E [] d6 (by omega) (Nat.le_refl _) lb5 fr6 oE.ok (by rw [oE.n]; omega) (by rw [oE.late]; simp) iE.tells iE.len iE.lt iE.room
  rw [rE] at hop
  have HOP := hide hop
  have HOE := hide oE
  clear hop d6 st6 hE oE iE rE b6 fr6 HD5 HB5
  go_wp2_with fail
  refine (unhide HOP).mono ?_
  rintro e w7 ⟨lv7, _, b7, ho7⟩
  obtain ⟨yb, he7, a7, s7⟩ : ∃ yb, e = .returned (.tuple #[.pointer (some ⟨yb, 0, none⟩), .int .i64 0]) ∧ BAt w7 yb w6.heap.size false ∧ Sys w7 w4.heap.size w6.heap.size w4.heap.size bs5 (.slice none 0 0) lv7 [] false E := by
    rcases ho7 with ⟨yb, _, _, _, he, ba, s⟩ | ⟨hq, _, _⟩
    · exact ⟨yb, he, ba, s⟩
    · rcases hq with e | e
      · cases e
      · exact absurd e (unhide HOE).life
  subst he7
  have hrd := read_of w7 w4.heap.size yb w6.heap.size w4.heap.size bs5 300 lv7 E M ⟨#[97]⟩ (by decide) a7 s7 (unhide HOE) (by omega)
  rw [unhide HM, root_read] at hrd
  unfold ndV rootN at hrd
  dsimp only at hrd
  have HRD := hide hrd
  have HB7 := hide ((unhide HB6).trans b7)
  clear hrd ho7 b7 a7 s7 HOP HB6
  go_wp2_with fail
  refine (unhide HRD).mono ?_
  rintro e w8 ⟨rfl, b8⟩
  have sz7 := (unhide HB7).size
  have b48 : Below w4.heap.size w4 w8 := (unhide HB7).trans (b8.mono sz7)
  have hn8 := (b48.block w2.heap.size ln4).trans (unhide HN4)
  obtain ⟨c0, c1, c2, c3, c4, _⟩ := five_fz hn8
  have HBF := hide ((unhide HB4).trans (b48.mono sz4))
  have sz8 := b48.size
  have ln8 : w2.heap.size < w8.heap.size := lt_of_heap hn8
  clear hn8 b8 b48 HRD HB7 HN4 HS4
  go_wp2_with fail
  go_ret
  exact ⟨rfl, (unhide HBF).alloc (by omega) _⟩
end Go.Proofs.YtcbindgpbeaebaaGreatDoor
