import Derived.Test.YtcbindgpbeaebaaWalkS
namespace Go.Proofs.Ytcbindgpbeaebaa
open Go.RowKit Go.Deep
attribute [local go_sem ↓] Go.wp_at_zero Go.wp_at_succ

theorem Sys.alloc {w : World} {B bl bd bs : Nat} {pv lv : Value} {ps : List (Nat × ByteArray)} {br : Bool} {d : Dk} (s : Sys w B bl bd bs pv lv ps br d) (o : Obj) : Sys (w.alloc o) B bl bd bs pv lv ps br d :=
  ⟨s.log.alloc o, s.disk.alloc o, s.sep, by have := s.base; simp; omega⟩
theorem Sys.below {w w' : World} {B bl bd bs : Nat} {pv lv : Value} {ps : List (Nat × ByteArray)} {br : Bool} {d : Dk} (s : Sys w B bl bd bs pv lv ps br d) (h : Below w.heap.size w w') : Sys w' B bl bd bs pv lv ps br d :=
  ⟨s.log.below h, s.disk.below h, s.sep, Nat.le_trans s.base h.size⟩

/-- A cell of the law's struct is written. -/
theorem struct1 {w w0 : World} {B C1 C2 bl bd bs bw : Nat} {pv lv : Value} {ps : List (Nat × ByteArray)} {br : Bool} {d : Dk} {R1 R2 : Rf} {s1 r1 s2 r2 : Value} {A : Array Value} (h : Sys w B bl bd bs pv lv ps br d ∧ w.heap[bw]? = some (.cells A 32 (0, 0)) ∧ RAt C1 w R1 s1 r1 ∧ RAt C2 w R2 s2 r2 ∧ Below B w0 w) (hBw : B ≤ bw) (i : Nat) (u : Value) :
    Sys (w.setCell ⟨bw, i, none⟩ u) B bl bd bs pv lv ps br d ∧ (w.setCell ⟨bw, i, none⟩ u).heap[bw]? = some (.cells (A.setIfInBounds i u) 32 (0, 0)) ∧ RAt C1 (w.setCell ⟨bw, i, none⟩ u) R1 s1 r1 ∧ RAt C2 (w.setCell ⟨bw, i, none⟩ u) R2 s2 r2 ∧ Below B w0 (w.setCell ⟨bw, i, none⟩ u) := by
  obtain ⟨s, hw, h1, h2, hb⟩ := h
  obtain ⟨cur, hbs, _⟩ := s.disk.sb
  refine ⟨⟨s.log.kept fun k _ e => Below.heap_setCell _ _ _ _ ?_, s.disk.kept fun k _ e => Below.heap_setCell _ _ _ _ ?_, s.sep, by have := s.base; simp [World.setCell]; omega⟩, heap_setCell_same w bw i A _ u hw, h1.setOther hw (by decide) i u, h2.setOther hw (by decide) i u, hb.setCell hBw u⟩
  · rcases e with rfl | e
    · exact blk_ne s.log.own hw (by decide)
    · intro e'
      simp only at e'
      subst e'
      exact ownsRow_ne s.log.puts hw (by decide) e
  · rcases e with rfl | rfl | e
    · exact blk_ne s.disk.own hw (by decide)
    · exact blk_ne hbs hw (by decide)
    · intro e'
      simp only at e'
      subst e'
      exact ownsRow_ne s.disk.late hw (by decide) e
theorem struct8 {w w0 : World} {B C1 C2 bl bd bs bw : Nat} {pv lv : Value} {ps : List (Nat × ByteArray)} {br : Bool} {d : Dk} {R1 R2 : Rf} {s1 r1 s2 r2 : Value} {A : Array Value} (s : Sys w B bl bd bs pv lv ps br d) (h1 : RAt C1 w R1 s1 r1) (h2 : RAt C2 w R2 s2 r2) (hb : Below B w0 w) (hw : w.heap[bw]? = some (.cells A 32 (0, 0))) (hBw : B ≤ bw)
    (i1 : Nat) (u1 : Value) (i2 : Nat) (u2 : Value) (i3 : Nat) (u3 : Value) (i4 : Nat) (u4 : Value) (i5 : Nat) (u5 : Value) (i6 : Nat) (u6 : Value) (i7 : Nat) (u7 : Value) (i8 : Nat) (u8 : Value) :
    let W := (((((((w.setCell ⟨bw, i1, none⟩ u1).setCell ⟨bw, i2, none⟩ u2).setCell ⟨bw, i3, none⟩ u3).setCell ⟨bw, i4, none⟩ u4).setCell ⟨bw, i5, none⟩ u5).setCell ⟨bw, i6, none⟩ u6).setCell ⟨bw, i7, none⟩ u7).setCell ⟨bw, i8, none⟩ u8
    Sys W B bl bd bs pv lv ps br d ∧ W.heap[bw]? = some (.cells ((((((((A.setIfInBounds i1 u1).setIfInBounds i2 u2).setIfInBounds i3 u3).setIfInBounds i4 u4).setIfInBounds i5 u5).setIfInBounds i6 u6).setIfInBounds i7 u7).setIfInBounds i8 u8) 32 (0, 0)) ∧ RAt C1 W R1 s1 r1 ∧ RAt C2 W R2 s2 r2 ∧ Below B w0 W :=
  struct1 (struct1 (struct1 (struct1 (struct1 (struct1 (struct1 (struct1 ⟨s, hw, h1, h2, hb⟩ hBw i1 u1) hBw i2 u2) hBw i3 u3) hBw i4 u4) hBw i5 u5) hBw i6 u6) hBw i7 u7) hBw i8 u8

set_option maxRecDepth 100000 in
set_option maxHeartbeats 6400000 in
theorem commits_fail (w : World) (B bw bl bd bs : Nat) (pv lv : Value) (ps : List (Nat × ByteArray)) (d : Dk) (R R2 : Rf) (sv rv sv2 rv2 : Value) (tw : Bool) (s : Sys w B bl bd bs pv lv ps false d)
    (hw : w.heap[bw]? = some (.cells (wcells bd (.pointer (some ⟨bl, 0, none⟩)) R R2 sv rv sv2 rv2 tw false) 32 (0, 0))) (hBw : B ≤ bw) (hr : RAt B w R sv rv)
    (ok : d.Ok) (hs : 90 < d.safe.length) (hll : d.late.length ≤ 800000) (hl : ps.length ≤ 80) (hb4 : ∀ p ∈ ps, 90 + p.1 < d.safe.length) (hz : ∀ p ∈ ps, p.2.size ≤ 256) (hsl : R.sure.length ≤ 400000) (hpl : R.put.length ≤ 400000) (hbeg : 0 < R.put.length)
    (hc : (commitL d ps false).1 = 9) (hbr : (commitL d ps false).2.2 = true) (hfe : d.failed < (commitL d ps false).2.1.failed) :
    Calls Try.prog 26 #[.pointer (some ⟨bw, 0, none⟩)] w fun e w' => ∃ lv' sv' sv2', e = .returned (.bool true) ∧ Sys w' B bl bd bs (.slice none 0 0) lv' [] true (commitL d ps false).2.1 ∧
      w'.heap[bw]? = some (.cells (wcells bd (.pointer (some ⟨bl, 0, none⟩)) { R with put := [] } (doneR R) sv' (.slice none 0 0) sv2' (.slice none 0 0) true true) 32 (0, 0)) ∧ RAt B w' { R with put := [] } sv' (.slice none 0 0) ∧ RAt B w' (doneR R) sv2' (.slice none 0 0) ∧ Below B w w' := by
  obtain ⟨so, scap, hsv⟩ := ownsRow_form hr.sure.base0
  obtain ⟨po, pcap, hpv⟩ := ownsRow_form hr.put.base0
  subst hsv hpv
  obtain ⟨⟨x0, x1, x2, x3, x4, x5, x6, x7, x8, x9⟩, xz⟩ := wcell hw
  have hbase := s.base
  have HC := hide hc
  have HBR := hide hbr
  have HFE := hide hfe
  have HW := hide hw
  clear hc hbr hfe hw
  go_enter Try.func26, Try.ntmps26
  go_wp2_with fail
  refine (dead_any w bd bs lv d s.disk).mono ?_
  rintro e w1 ⟨rfl, hw1⟩
  have hw1 := hw1.symm
  subst hw1
  go_wp2_with fail
  refine (failed_any w bd bs lv d s.disk).mono ?_
  rintro e w1 ⟨rfl, hw1⟩
  have hw1 := hw1.symm
  subst hw1
  go_wp2_with fail
  refine (begun_any w R.many (.slice so R.sure.length scap) po R.put.length pcap).mono ?_
  rintro e w1 ⟨rfl, o, rfl⟩
  have s1 := s.alloc o
  have h1 := (Below.heap_alloc w o bw (lt_of_heap (unhide HW))).trans (unhide HW)
  have r1 := hr.alloc o
  have b1 := (Below.refl B w).alloc hbase o
  obtain ⟨⟨y0, y1, y2, y3, y4, y5, y6, y7, y8, y9⟩, yz⟩ := wcell h1
  have hbe : decide (0 < R.put.length) = true := by simpa using hbeg
  rw [hbe]
  clear hbe x0 x1 x2 x3 x4 x5 x6 x7 x8 x9 xz
  have HS1 := hide s1
  have HW1 := hide h1
  have HR1 := hide r1
  have HB1 := hide b1
  clear s1 h1 r1 b1
  go_wp2_with fail
  refine (commit_any (w.alloc o) B bl bd bs pv lv ps false d (unhide HS1) ok hs hll hl hb4 hz).mono ?_
  rintro e w2 ⟨lv2, rfl, s2, b2, st2⟩
  rw [unhide HC]
  rw [unhide HBR] at s2
  have h2 := (unhide HS1).keep st2 (unhide HW1) (by decide) (by decide) (by decide) (by decide) (by decide)
  have r2 := (unhide HR1).keepS (unhide HS1) st2
  have b02 := (unhide HB1).trans b2
  obtain ⟨⟨z0, z1, z2, z3, z4, z5, z6, z7, z8, z9⟩, zz⟩ := wcell h2
  clear y0 y1 y2 y3 y4 y5 y6 y7 y8 y9 yz
  generalize hd2 : (commitL d ps false).2.1 = d2 at s2 HFE ⊢
  have HD2 := hide hd2
  clear hd2
  have HS2 := hide s2
  have HW2 := hide h2
  have HR2 := hide r2
  have HB2 := hide b02
  clear s2 h2 r2 b02 b2 st2 HS1 HW1 HR1 HB1
  go_wp2_with fail
  refine (failed_any w2 bd bs lv2 d2 (unhide HS2).disk).mono ?_
  rintro e w3 ⟨rfl, hw3⟩
  have hw3 := hw3.symm
  subst hw3
  go_wp2_with fail
  refine (dead_any w2 bd bs lv2 d2 (unhide HS2).disk).mono ?_
  rintro e w3 ⟨rfl, hw3⟩
  have hw3 := hw3.symm
  subst hw3
  go_wp2_with fail
  refine (done_any B w2 R (.slice so R.sure.length scap) (.slice po R.put.length pcap) (unhide HR2) hsl hpl).mono ?_
  rintro e w3 ⟨sv3, rfl, r3, b3⟩
  obtain ⟨so3, scap3, hsv3⟩ := ownsRow_form r3.sure.base0
  subst hsv3
  have h3 := (b3.block bw (lt_of_heap (unhide HW2))).trans (unhide HW2)
  have h3a := (Below.heap_alloc w3 (.cells #[.int .i64 R.many, .slice so3 (doneR R).sure.length scap3, .slice none 0 0] 30) bw (lt_of_heap h3)).trans h3
  have hD3 := heap_alloc_new w3 (.cells #[.int .i64 R.many, .slice so3 (doneR R).sure.length scap3, .slice none 0 0] 30)
  have s3 := ((unhide HS2).below b3).alloc (.cells #[.int .i64 R.many, .slice so3 (doneR R).sure.length scap3, .slice none 0 0] 30)
  have rO3 := ((unhide HR2).below b3).alloc (.cells #[.int .i64 R.many, .slice so3 (doneR R).sure.length scap3, .slice none 0 0] 30)
  have rN3 := r3.alloc (.cells #[.int .i64 R.many, .slice so3 (doneR R).sure.length scap3, .slice none 0 0] 30)
  have bB3 := ((unhide HB2).trans (b3.mono (unhide HS2).base)).alloc (by have := (unhide HS2).base; have := b3.size; omega) (.cells #[.int .i64 R.many, .slice so3 (doneR R).sure.length scap3, .slice none 0 0] 30)
  have sz3 : (w3.alloc (.cells #[.int .i64 R.many, .slice so3 (doneR R).sure.length scap3, .slice none 0 0] 30)).heap.size = w3.heap.size + 1 := by simp
  have nbw : bw < w3.heap.size := lt_of_heap h3
  have w23 := b3.size
  obtain ⟨⟨u0, u1, u2, u3, u4, u5, u6, u7, u8, u9⟩, uz⟩ := wcell h3a
  obtain ⟨⟨p0, p1, p2, p3, p4, p5, p6, p7, p8, p9⟩, pz⟩ := wcell h3
  clear z0 z1 z2 z3 z4 z5 z6 z7 z8 z9 zz
  have HW3 := hide h3a
  have HD3 := hide hD3
  have HS3 := hide s3
  have HRO3 := hide rO3
  have HRN3 := hide rN3
  have HBB3 := hide bB3
  have HSZ3 := hide sz3
  clear h3 h3a hD3 s3 rO3 rN3 bB3 sz3 r3 b3
  go_wp2_with fail
  refine (rDrop_any B _ R (.slice so R.sure.length scap) (.slice po R.put.length pcap) (unhide HRO3)).mono ?_
  rintro e w4 ⟨sv4, rfl, r4, b4⟩
  obtain ⟨so4, scap4, hsv4⟩ := ownsRow_form r4.sure.base0
  subst hsv4
  rw [unhide HSZ3] at r4 b4
  have w34 : w3.heap.size + 1 ≤ w4.heap.size := by have := b4.size; rw [unhide HSZ3] at this; exact this
  have h4 := (b4.block bw (by omega)).trans (unhide HW3)
  have hD4 := (b4.block w3.heap.size (by omega)).trans (unhide HD3)
  have h4a := (Below.heap_alloc w4 (.cells #[.int .i64 R.many, .slice so4 R.sure.length scap4, .slice none 0 0] 30) bw (lt_of_heap h4)).trans h4
  have hD4a := three_alloc hD4 (.cells #[.int .i64 R.many, .slice so4 R.sure.length scap4, .slice none 0 0] 30)
  obtain ⟨⟨q0, q1, q2, q3, q4, q5, q6, q7, q8, q9⟩, qz⟩ := wcell h4a
  obtain ⟨e0, e1, e2, _, _, _⟩ := three_cells hD4a
  clear u0 u1 u2 u3 u4 u5 u6 u7 u8 u9 uz p0 p1 p2 p3 p4 p5 p6 p7 p8 p9 pz
  have nb3 : ¬ w3.heap.size = bw := by omega
  have nb4 : ¬ w4.heap.size = bw := by omega
  have HW4 := hide h4a
  have HR4 := hide r4
  have HB4 := hide b4
  have hfe' := unhide HFE
  clear h4 h4a hD4 hD4a r4 b4
  go_wp2_with fail
  go_ret
  rw [unhide HD2]
  have sA := ((unhide HS3).below (by rw [unhide HSZ3]; exact unhide HB4)).alloc (.cells #[.int .i64 R.many, .slice so4 R.sure.length scap4, .slice none 0 0] 30)
  have rA := (unhide HR4).alloc (.cells #[.int .i64 R.many, .slice so4 R.sure.length scap4, .slice none 0 0] 30)
  have rN := ((unhide HRN3).below (by rw [unhide HSZ3]; exact unhide HB4)).alloc (.cells #[.int .i64 R.many, .slice so4 R.sure.length scap4, .slice none 0 0] 30)
  have bA := ((unhide HBB3).trans ((unhide HB4).mono (by omega))).alloc (by omega) (.cells #[.int .i64 R.many, .slice so4 R.sure.length scap4, .slice none 0 0] 30)
  have hA := unhide HW4
  have hw2b : B ≤ w2.heap.size := (unhide HS2).base
  refine ⟨lv2, .slice so4 R.sure.length scap4, .slice so3 (doneR R).sure.length scap3, ?_, ?_⟩
  · rfl
  · have st := struct8 sA rA rN bA hA hBw 2 (.int .i64 R.many) 3 (.slice so4 R.sure.length scap4) 4 (.slice none 0 0) 9 (.bool true) 8 (.bool true) 5 (.int .i64 R.many) 6 (.slice so3 (doneR R).sure.length scap3) 7 (.slice none 0 0)
    obtain ⟨t1, t2, t3, t4, t5⟩ := st
    exact ⟨t1, by rw [t2]; rfl, t3.base (by omega), t4.base (by omega), t5⟩
end Go.Proofs.Ytcbindgpbeaebaa
