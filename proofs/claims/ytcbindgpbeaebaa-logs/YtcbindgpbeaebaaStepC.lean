import Derived.Test.YtcbindgpbeaebaaStepB
import Derived.Deep.DeepCutAuto
namespace Go.Proofs.Ytcbindgpbeaebaa
open Go.RowKit Go.Deep
attribute [local go_sem ↓] Go.wp_at_zero Go.wp_at_succ

/-- A cell of a reference of its own is written. -/
theorem side1 {w w0 : World} {B C1 C2 bl bd bs bw k : Nat} {pv lv : Value} {ps : List (Nat × ByteArray)} {br : Bool} {d : Dk} {R1 R2 : Rf} {s1 r1 s2 r2 : Value} {A cs : Array Value} (h : Sys w B bl bd bs pv lv ps br d ∧ w.heap[bw]? = some (.cells A 32 (0, 0)) ∧ RAt C1 w R1 s1 r1 ∧ RAt C2 w R2 s2 r2 ∧ Below B w0 w) (hk : w.heap[k]? = some (.cells cs 30 (0, 0))) (hBk : B ≤ k) (i : Nat) (u : Value) :
    (Sys (w.setCell ⟨k, i, none⟩ u) B bl bd bs pv lv ps br d ∧ (w.setCell ⟨k, i, none⟩ u).heap[bw]? = some (.cells A 32 (0, 0)) ∧ RAt C1 (w.setCell ⟨k, i, none⟩ u) R1 s1 r1 ∧ RAt C2 (w.setCell ⟨k, i, none⟩ u) R2 s2 r2 ∧ Below B w0 (w.setCell ⟨k, i, none⟩ u)) ∧ (w.setCell ⟨k, i, none⟩ u).heap[k]? = some (.cells (cs.setIfInBounds i u) 30 (0, 0)) := by
  obtain ⟨s, hw, h1, h2, hb⟩ := h
  obtain ⟨cur, hbs, _⟩ := s.disk.sb
  refine ⟨⟨⟨s.log.kept fun j _ e => Below.heap_setCell _ _ _ _ ?_, s.disk.kept fun j _ e => Below.heap_setCell _ _ _ _ ?_, s.sep, by have := s.base; simp [World.setCell]; omega⟩, (Below.heap_setCell _ _ _ _ (blk_ne hw hk (by decide))).trans hw, h1.setOther hk (by decide) i u, h2.setOther hk (by decide) i u, hb.setCell hBk u⟩, heap_setCell_same w k i cs _ u hk⟩
  · rcases e with rfl | e
    · exact blk_ne s.log.own hk (by decide)
    · intro e'
      simp only at e'
      subst e'
      exact ownsRow_ne s.log.puts hk (by decide) e
  · rcases e with rfl | rfl | e
    · exact blk_ne s.disk.own hk (by decide)
    · exact blk_ne hbs hk (by decide)
    · intro e'
      simp only at e'
      subst e'
      exact ownsRow_ne s.disk.late hk (by decide) e

theorem cell_set3 (w : World) (k i j l : Nat) (u v x : Value) (p : Addr) (h : ¬ p.block = k) : (((w.setCell ⟨k, i, none⟩ u).setCell ⟨k, j, none⟩ v).setCell ⟨k, l, none⟩ x).cell? p = w.cell? p :=
  World.cell?_of_block (((Below.heap_setCell _ ⟨k, l, none⟩ _ _ h).trans (Below.heap_setCell _ ⟨k, j, none⟩ _ _ h)).trans (Below.heap_setCell _ ⟨k, i, none⟩ _ _ h))
/-- Behind the log's Put. -/
def MidA (w : World) (B bw bl bd bs : Nat) (lv : Value) (ps : List (Nat × ByteArray)) (d : Dk) (R R2 : Rf) (sv rv sv2 rv2 : Value) (tw br : Bool) (cs : Array Value) (wx : World) : Prop :=
  ∃ pv1, Sys wx B bl bd bs pv1 lv ps br d ∧ wx.heap[bw]? = some (.cells (wcells bd (.pointer (some ⟨bl, 0, none⟩)) R R2 sv rv sv2 rv2 tw br) 32 (0, 0)) ∧ RAt B wx R sv rv ∧ RAt B wx R2 sv2 rv2 ∧ Below B w wx ∧ wx.heap[w.heap.size]? = some (.cells cs 38 (0, 0))
/-- Behind the reference's Put. -/
def MidB (w : World) (B bw bl bd bs : Nat) (lv : Value) (ps : List (Nat × ByteArray)) (d : Dk) (R R2 Rn : Rf) (sv rv sv2 rv2 : Value) (tw br : Bool) (s6 : Value) (wx : World) : Prop :=
  ∃ k pv1 sv' rv', s6 = .pointer (some ⟨k, 0, none⟩) ∧ wx.heap[k]? = some (.cells #[.int .i64 R.many, sv', rv'] 30 (0, 0)) ∧ B ≤ k ∧ Sys wx B bl bd bs pv1 lv ps br d ∧ wx.heap[bw]? = some (.cells (wcells bd (.pointer (some ⟨bl, 0, none⟩)) R R2 sv rv sv2 rv2 tw br) 32 (0, 0)) ∧ RAt B wx Rn sv' rv' ∧ RAt B wx R2 sv2 rv2 ∧ Below B w wx

/-- What a step of Put leaves. -/
def PutPost (w : World) (B bw bl bd bs : Nat) (lv : Value) (ps : List (Nat × ByteArray)) (d : Dk) (R R2 Rn : Rf) (sv2 rv2 : Value) (tw br : Bool) (w' : World) : Prop :=
  ∃ pv' sv' rv', Sys w' B bl bd bs pv' lv ps br d ∧ w'.heap[bw]? = some (.cells (wcells bd (.pointer (some ⟨bl, 0, none⟩)) { Rn with many := R.many } R2 sv' rv' sv2 rv2 tw br) 32 (0, 0)) ∧ RAt B w' Rn sv' rv' ∧ RAt B w' R2 sv2 rv2 ∧ Below B w w'

set_option maxRecDepth 100000 in
set_option maxHeartbeats 3200000 in
theorem step_put (w : World) (B bw bl bd bs : Nat) (pv lv : Value) (ps : List (Nat × ByteArray)) (d : Dk) (R R2 : Rf) (sv rv sv2 rv2 : Value) (tw br : Bool) (n : Int) (s : ByteArray) (kv : Value) (sy : Sys w B bl bd bs pv lv ps br d)
    (hw : w.heap[bw]? = some (.cells (wcells bd (.pointer (some ⟨bl, 0, none⟩)) R R2 sv rv sv2 rv2 tw br) 32 (0, 0))) (hBw : B ≤ bw) (hr : RAt B w R sv rv) (hr2 : RAt B w R2 sv2 rv2) (hn : d.safe.length ≤ 4096) (hp : ps.length ≤ 80) (hpl : R.put.length ≤ 800000)
    (heq : (putL d.safe.length ps n s).1 = (putR R n s).2) :
    Calls Try.prog 9 #[.pointer (some ⟨bw, 0, none⟩), .agg #[.int .i64 2, .int .i64 n, .string s, kv]] w fun e w' => e = .returned (.bool true) ∧ PutPost w B bw bl bd bs lv (putL d.safe.length ps n s).2 d R R2 (putR R n s).1 sv2 rv2 tw br w' := by
  obtain ⟨so, scap, hsv⟩ := ownsRow_form hr.sure.base0
  obtain ⟨po, pcap, hpv⟩ := ownsRow_form hr.put.base0
  subst hsv hpv
  have hbw : bw < w.heap.size := lt_of_heap hw
  obtain ⟨⟨x0, x1, x2, x3, x4, x5, x6, x7, x8, x9⟩, xz⟩ := wcell hw
  have HW := hide hw
  have HEQ := hide heq
  clear hw heq
  go_enter Try.func9, Try.ntmps9
  go_wp2_with fail
  generalize hO : (Obj.cells #[Value.int IntKind.i64 2, Value.int IntKind.i64 n, Value.string s, kv] 38 : Obj) = O
  have hOb : (w.alloc O).drew.heap[w.heap.size]? = some (.cells #[Value.int IntKind.i64 2, Value.int IntKind.i64 n, Value.string s, kv] 38 (0, 0)) := by
    rw [← hO]
    exact heap_alloc_new w _
  have sA := (sy.alloc O).drew
  have hA : (w.alloc O).drew.heap[bw]? = _ := (Below.heap_alloc w O bw hbw).trans (unhide HW)
  have hrA := (hr.alloc O).drew
  have hrA2 := (hr2.alloc O).drew
  have bA := ((Below.refl B w).alloc sy.base O).drew
  have HOB := hide hOb
  have HA := hide hA
  have HSA := hide sA
  have HRA := hide hrA
  have HRA2 := hide hrA2
  have HBA := hide bA
  have cO1 : (w.alloc O).drew.cell? ⟨w.heap.size, 1, none⟩ = some (.int .i64 n) := by rw [cell_of_row _ _ 1 _ _ _ hOb]; rfl
  have cO2 : (w.alloc O).drew.cell? ⟨w.heap.size, 2, none⟩ = some (.string s) := by rw [cell_of_row _ _ 2 _ _ _ hOb]; rfl
  clear hOb hA sA hrA hrA2 bA
  go_cut [5] (fun s5 wx => s5 = .int .i64 (putL d.safe.length ps n s).1 ∧ MidA w B bw bl bd bs lv (putL d.safe.length ps n s).2 d R R2 (.slice so R.sure.length scap) (.slice po R.put.length pcap) sv2 rv2 tw br #[Value.int IntKind.i64 2, Value.int IntKind.i64 n, Value.string s, kv] wx)
  case first =>
    go_region_with ((go_at_call 12; refine (put_any _ bl bd bs pv lv ps br d n s (unhide HSA).log (unhide HSA).disk hn hp).mono ?_; rintro e w1 ⟨pv1, rfl, l1, st1⟩))
    all_goals
      obtain ⟨s1, b1⟩ := (unhide HSA).ofLog l1 st1
      have h1 := (unhide HSA).log.keep st1 (unhide HA) (by decide) (by decide)
      have o1 := (unhide HSA).log.keep st1 (unhide HOB) (by decide) (by decide)
      have r1 := (unhide HRA).keepL (unhide HSA).log st1
      have r2 := (unhide HRA2).keepL (unhide HSA).log st1
      have bB := (unhide HBA).trans b1
      have HM := hide (show MidA w B bw bl bd bs lv (putL d.safe.length ps n s).2 d R R2 (.slice so R.sure.length scap) (.slice po R.put.length pcap) sv2 rv2 tw br #[Value.int IntKind.i64 2, Value.int IntKind.i64 n, Value.string s, kv] w1 from ⟨pv1, s1, h1, r1, r2, bB, o1⟩)
      clear h1 s1 r1 r2 bB b1 l1 st1 o1
      go_wp2_with fail
      go_meet
      exact ⟨rfl, unhide HM⟩
  case rest =>
  obtain ⟨rfl, hM⟩ := hcut
  obtain ⟨pv1, s1, h1, r1, r2, bB, o1⟩ := hM
  obtain ⟨⟨y0, y1, y2, y3, y4, y5, y6, y7, y8, y9⟩, yz⟩ := wcell h1
  have c1 : wc.cell? ⟨w.heap.size, 1, none⟩ = some (.int .i64 n) := by rw [cell_of_row _ _ 1 _ _ _ o1]; rfl
  have c2 : wc.cell? ⟨w.heap.size, 2, none⟩ = some (.string s) := by rw [cell_of_row _ _ 2 _ _ _ o1]; rfl
  have H1 := hide h1
  have HS1 := hide s1
  have HR1 := hide r1
  have HR2 := hide r2
  have HB := hide bB
  have z1 := s1.base
  have l1 : w.heap.size < wc.heap.size := lt_of_heap o1
  have l2 : bw < wc.heap.size := lt_of_heap h1
  clear h1 s1 r1 r2 bB o1 x0 x1 x2 x3 x4 x5 x6 x7 x8 x9 xz cO1 cO2 HOB HA HSA HRA HRA2 HBA
  go_wp2_with fail
  go_cut [6, 7] (fun s6 s7 wx => s7 = .int .i64 (putR R n s).2 ∧ MidB w B bw bl bd bs lv (putL d.safe.length ps n s).2 d R R2 (putR R n s).1 (.slice so R.sure.length scap) (.slice po R.put.length pcap) sv2 rv2 tw br s6 wx)
  case first =>
    have nb1 : ¬ bw = wc.heap.size := by omega
    have nb2 : ¬ w.heap.size = wc.heap.size := by omega
    clear y0 y1 y5 y6 y7 y8 y9 yz sy hr hr2 HW
    go_region_held3 (fun w' => w'.cell? ⟨bw, 2, none⟩ = some (.int .i64 R.many) ∧ w'.cell? ⟨bw, 3, none⟩ = some (.slice so R.sure.length scap) ∧ w'.cell? ⟨bw, 4, none⟩ = some (.slice po R.put.length pcap) ∧ w'.cell? ⟨w.heap.size, 1, none⟩ = some (.int .i64 n) ∧ w'.cell? ⟨w.heap.size, 2, none⟩ = some (.string s)) (first | go_keep | exact ⟨(cell_set3 w2 _ _ _ _ _ _ _ _ nb1).trans e1, (cell_set3 w2 _ _ _ _ _ _ _ _ nb1).trans e2, (cell_set3 w2 _ _ _ _ _ _ _ _ nb1).trans e3, (cell_set3 w2 _ _ _ _ _ _ _ _ nb2).trans e4, (cell_set3 w2 _ _ _ _ _ _ _ _ nb2).trans e5⟩) ((go_at_call 21; (first
      | (refine (rPut_any B wc.drew R (.slice so R.sure.length scap) (.slice po R.put.length pcap) n s ?_ ?_ hpl).mono ?_; (· exact (unhide HR1).drew); (· exact z1); rintro e w2 ⟨sv2', rv2', rfl, r2, f21, f22, b2⟩
         obtain ⟨so2, scap2, hsv2⟩ := ownsRow_form r2.sure.base0
         obtain ⟨po2, pcap2, hpv2⟩ := ownsRow_form r2.put.base0
         subst hsv2 hpv2
         have e1 := (b2.cell (p := ⟨bw, 2, none⟩) l2).trans y2
         have e2 := (b2.cell (p := ⟨bw, 3, none⟩) l2).trans y3
         have e3 := (b2.cell (p := ⟨bw, 4, none⟩) l2).trans y4
         have e4 := (b2.cell (p := ⟨w.heap.size, 1, none⟩) l1).trans c1
         have e5 := (b2.cell (p := ⟨w.heap.size, 2, none⟩) l1).trans c2
         have sw2 : wc.heap.size ≤ w2.heap.size := b2.size
         have hT := hide (show True from trivial)
         have HR' := hide r2
         have HB2 := hide b2
         clear r2 b2 f21 f22)
      | (refine (rPut_any B (wc.alloc (.cells #[.int .i64 0, .slice none 0 0, .slice none 0 0] 30)).drew R (.slice so R.sure.length scap) (.slice po R.put.length pcap) n s ?_ ?_ hpl).mono ?_; (· exact ((unhide HR1).alloc _).drew); (· show _ ≤ (wc.alloc _).heap.size; simp; omega); rintro e w2 ⟨sv2', rv2', rfl, r2, f21, f22, b2⟩
         obtain ⟨so2, scap2, hsv2⟩ := ownsRow_form r2.sure.base0
         obtain ⟨po2, pcap2, hpv2⟩ := ownsRow_form r2.put.base0
         subst hsv2 hpv2
         have ls : wc.heap.size < (wc.alloc (.cells #[.int .i64 0, .slice none 0 0, .slice none 0 0] 30)).drew.heap.size := by show _ < (wc.alloc _).heap.size; simp
         have e1 := (b2.cell (p := ⟨bw, 2, none⟩) (Nat.lt_trans l2 ls)).trans ((World.cell?_of_block (Below.heap_alloc wc _ bw l2)).trans y2)
         have e2 := (b2.cell (p := ⟨bw, 3, none⟩) (Nat.lt_trans l2 ls)).trans ((World.cell?_of_block (Below.heap_alloc wc _ bw l2)).trans y3)
         have e3 := (b2.cell (p := ⟨bw, 4, none⟩) (Nat.lt_trans l2 ls)).trans ((World.cell?_of_block (Below.heap_alloc wc _ bw l2)).trans y4)
         have e4 := (b2.cell (p := ⟨w.heap.size, 1, none⟩) (Nat.lt_trans l1 ls)).trans ((World.cell?_of_block (Below.heap_alloc wc _ w.heap.size l1)).trans c1)
         have e5 := (b2.cell (p := ⟨w.heap.size, 2, none⟩) (Nat.lt_trans l1 ls)).trans ((World.cell?_of_block (Below.heap_alloc wc _ w.heap.size l1)).trans c2)
         have bk := (b2.block wc.heap.size ls).trans (heap_alloc_new wc _)
         obtain ⟨k0, k1, k2, k3, k4, k5⟩ := three_cells bk
         have HBK := hide bk
         have HR' := hide r2
         have HB2 := hide b2
         clear r2 b2 f21 f22 bk ls))))
    all_goals
      go_wp2_with fail
      go_meet
    · have b2 := unhide HB2
      have sw : wc.heap.size ≤ w2.heap.size := b2.size
      have hA : w2.heap[bw]? = _ := (b2.block bw l2).trans (unhide H1)
      exact ⟨rfl, w2.heap.size, pv1, _, _, rfl, heap_alloc_new w2 _, by omega, ((unhide HS1).drew.below b2).alloc _, (Below.heap_alloc w2 _ bw (by omega)).trans hA, (unhide HR').alloc _, ((unhide HR2).drew.below b2).alloc _, ((unhide HB).drew.trans (b2.mono z1)).alloc (by omega) _⟩
    · have b2 := unhide HB2
      have ls : wc.heap.size < (wc.alloc (.cells #[.int .i64 0, .slice none 0 0, .slice none 0 0] 30)).drew.heap.size := by show _ < (wc.alloc _).heap.size; simp
      have hA : w2.heap[bw]? = _ := (b2.block bw (Nat.lt_trans l2 ls)).trans ((Below.heap_alloc wc _ bw l2).trans (unhide H1))
      have q0 := And.intro (((unhide HS1).alloc _).drew.below b2) (And.intro hA (And.intro (unhide HR') (And.intro (((unhide HR2).alloc _).drew.below b2) (((unhide HB).alloc z1 _).drew.trans (b2.mono (by omega))))))
      obtain ⟨q1, j1⟩ := side1 q0 (unhide HBK) z1 0 (.int .i64 R.many)
      obtain ⟨q2, j2⟩ := side1 q1 j1 z1 1 (.slice so2 (putR R n s).1.sure.length scap2)
      obtain ⟨q3, j3⟩ := side1 q2 j2 z1 2 (.slice po2 (putR R n s).1.put.length pcap2)
      obtain ⟨u1, u2, u3, u4, u5⟩ := q3
      exact ⟨rfl, wc.heap.size, pv1, _, _, rfl, by rw [j3]; rfl, z1, u1, u2, u3, u4, u5⟩
  case rest =>
  obtain ⟨rfl, hM⟩ := hcut
  obtain ⟨k, pv2, sv', rv', rfl, hk, hBk, s2, h2, r2, r22, b2⟩ := hM
  obtain ⟨so2, scap2, hsv2⟩ := ownsRow_form r2.sure.base0
  obtain ⟨po2, pcap2, hpv2⟩ := ownsRow_form r2.put.base0
  subst hsv2 hpv2
  obtain ⟨k0, k1, k2, k3, k4, k5⟩ := three_cells hk
  obtain ⟨⟨z0, z1, z2, z3, z4, z5, z6, z7, z8, z9⟩, zz⟩ := wcell h2
  have st := struct3 s2 r2 r22 b2 h2 hBw 2 (.int .i64 R.many) 3 (.slice so2 (putR R n s).1.sure.length scap2) 4 (.slice po2 (putR R n s).1.put.length pcap2)
  have HST := hide st
  have nk : ¬ bw = k := blk_ne h2 hk (by decide)
  clear st s2 h2 r2 r22 b2 hk y0 y1 y2 y3 y4 y5 y6 y7 y8 y9 yz c1 c2 H1 HS1 HR1 HR2 HB l1 l2
  go_wp2_with fail
  go_ret
  obtain ⟨t1, t2, t3, t4, t5⟩ := unhide HST
  refine ⟨?_, pv2, .slice so2 (putR R n s).1.sure.length scap2, .slice po2 (putR R n s).1.put.length pcap2, t1, ?_, t3, t4, t5⟩
  · show Ending.returned (Value.bool ((putL d.safe.length ps n s).1 == (putR R n s).2)) = _
    rw [unhide HEQ]; simp
  · rw [t2]; rfl
end Go.Proofs.Ytcbindgpbeaebaa
