import Derived.Test.YtcbindgpbeaebaaStepC
import Derived.Test.YtcbindgpbeaebaaPureK
import Derived.Deep.DeepCutAuto
namespace Go.Proofs.Ytcbindgpbeaebaa
open Go.RowKit Go.Deep
attribute [local go_sem ↓] Go.wp_at_zero Go.wp_at_succ

/-- What is known behind the log's Get. -/
def MidG (w : World) (cs : Array Value) (wx : World) : Prop := Below w.heap.size w wx ∧ wx.heap[w.heap.size]? = some (.cells cs 38 (0, 0))
set_option maxRecDepth 100000 in
set_option maxHeartbeats 3200000 in
theorem step_get (w : World) (B bw bl bd bs : Nat) (pv lv : Value) (ps : List (Nat × ByteArray)) (d : Dk) (R R2 : Rf) (sv rv sv2 rv2 : Value) (tw br : Bool) (n : Int) (s : ByteArray) (kv : Value) (sy : Sys w B bl bd bs pv lv ps br d)
    (hw : w.heap[bw]? = some (.cells (wcells bd (.pointer (some ⟨bl, 0, none⟩)) R R2 sv rv sv2 rv2 tw br) 32 (0, 0))) (hr : RAt B w R sv rv) (hn : d.safe.length ≤ 4096) (hp : ps.length ≤ 80) (hll : d.late.length ≤ 1000000)
    (g : ByteArray × Int) (hg : getL d ps br n = g) (hcase : (isR R.many n = false ∧ g = (⟨#[]⟩, 1)) ∨ (isR R.many n = true ∧ (d.life == 0) = true ∧ g = (⟨#[]⟩, 9)) ∨ (isR R.many n = true ∧ (d.life == 0) = false ∧ br = true ∧ g = (⟨#[]⟩, 9)) ∨ (isR R.many n = true ∧ (d.life == 0) = false ∧ br = false ∧ g = (getR R n, 0))) :
    Calls Try.prog 9 #[.pointer (some ⟨bw, 0, none⟩), .agg #[.int .i64 3, .int .i64 n, .string s, kv]] w fun e w' => e = .returned (.bool true) ∧ Below w.heap.size w w' := by
  obtain ⟨so, scap, hsv⟩ := ownsRow_form hr.sure.base0
  obtain ⟨po, pcap, hpv⟩ := ownsRow_form hr.put.base0
  subst hsv hpv
  have hbw : bw < w.heap.size := lt_of_heap hw
  obtain ⟨⟨x0, x1, x2, x3, x4, x5, x6, x7, x8, x9⟩, xz⟩ := wcell hw
  have HW := hide hw
  have HG := hide hg
  have HCS := hide hcase
  have HSY := hide sy
  have HR := hide hr
  clear hw hg hcase sy hr x5 x6 x7 x8
  go_enter Try.func9, Try.ntmps9
  go_wp2_with fail
  generalize hO : (Obj.cells #[Value.int IntKind.i64 3, Value.int IntKind.i64 n, Value.string s, kv] 38 : Obj) = O
  have hOb : (w.alloc O).drew.heap[w.heap.size]? = some (.cells #[Value.int IntKind.i64 3, Value.int IntKind.i64 n, Value.string s, kv] 38 (0, 0)) := by
    rw [← hO]
    exact heap_alloc_new w _
  have HSA := hide (((unhide HSY).alloc O).drew)
  have HBA := hide (((Below.refl w.heap.size w).alloc (Nat.le_refl _) O).drew)
  have cO1 : (w.alloc O).drew.cell? ⟨w.heap.size, 1, none⟩ = some (.int .i64 n) := by rw [cell_of_row _ _ 1 _ _ _ hOb]; rfl
  have HOB := hide hOb
  clear hOb
  go_cut [8, 9] (fun s8 s9 wx => s8 = .string g.1 ∧ s9 = .int .i64 g.2 ∧ MidG w #[Value.int IntKind.i64 3, Value.int IntKind.i64 n, Value.string s, kv] wx)
  case first =>
    go_region_with ((go_at_call 17; refine (get_any _ bl bd bs pv lv ps br d n (unhide HSA).log (unhide HSA).disk hn hll hp).mono ?_; rintro e w1 ⟨rfl, b1⟩))
    all_goals
      rw [unhide HG]
      have HM := hide (show MidG w #[Value.int IntKind.i64 3, Value.int IntKind.i64 n, Value.string s, kv] w1 from ⟨(unhide HBA).trans (b1.mono (by show w.heap.size ≤ (w.alloc O).heap.size; simp)), (b1.block w.heap.size (by show w.heap.size < (w.alloc O).heap.size; simp)).trans (unhide HOB)⟩)
      clear b1
      go_wp2_with fail
      go_meet
      exact ⟨rfl, rfl, unhide HM⟩
  case rest =>
  obtain ⟨rfl, rfl, hM⟩ := hcut
  obtain ⟨bB, o1⟩ := hM
  have h1 := (bB.block bw hbw).trans (unhide HW)
  obtain ⟨⟨y0, y1, y2, y3, y4, y5, y6, y7, y8, y9⟩, yz⟩ := wcell h1
  have c1 : wc.cell? ⟨w.heap.size, 1, none⟩ = some (.int .i64 n) := by rw [cell_of_row _ _ 1 _ _ _ o1]; rfl
  have l1 : w.heap.size < wc.heap.size := lt_of_heap o1
  have HB := hide bB
  have HO1 := hide o1
  clear h1 bB o1 x0 x1 x2 x3 x4 x9 xz cO1 HOB HSA HBA y0 y1 y5 y6 y7 y8 y9
  go_wp2_with fail
  go_cut [10] (fun s10 wx => s10 = .bool (isR R.many n) ∧ MidG w #[Value.int IntKind.i64 3, Value.int IntKind.i64 n, Value.string s, kv] wx)
  case first =>
    go_region_held3 (fun w' => w'.cell? ⟨bw, 2, none⟩ = some (.int .i64 R.many) ∧ w'.cell? ⟨bw, 3, none⟩ = some (.slice so R.sure.length scap) ∧ w'.cell? ⟨bw, 4, none⟩ = some (.slice po R.put.length pcap) ∧ w'.cell? ⟨w.heap.size, 1, none⟩ = some (.int .i64 n)) (go_keep) ((go_at_call 22; refine (rIs_any wc.drew R.many (.slice so R.sure.length scap) (.slice po R.put.length pcap) n).mono ?_; rintro e w1 ⟨rfl, o, hw1⟩; subst hw1))
    all_goals
      go_wp2_with fail
      go_meet
      exact ⟨rfl, ((unhide HB).drew.alloc (by show _ ≤ wc.heap.size; omega) _), (Below.heap_alloc wc.drew _ _ l1).trans (unhide HO1)⟩
  case rest =>
  obtain ⟨rfl, hM⟩ := hcut
  clear y2 y3 y4 yz c1 l1 HB HO1
  obtain ⟨bB, o1⟩ := hM
  have h1 := (bB.block bw hbw).trans (unhide HW)
  obtain ⟨⟨y0, y1, y2, y3, y4, y5, y6, y7, y8, y9⟩, yz⟩ := wcell h1
  have c1 : wc.cell? ⟨w.heap.size, 1, none⟩ = some (.int .i64 n) := by rw [cell_of_row _ _ 1 _ _ _ o1]; rfl
  have l1 : w.heap.size < wc.heap.size := lt_of_heap o1
  have l2 : bw < wc.heap.size := lt_of_heap h1
  have HB := hide bB
  have HD := hide ((unhide HSY).disk.below bB)
  have HRW := hide ((unhide HR).below bB)
  clear h1 bB o1 y1 y5 y6 y7 y8
  go_wp2_with fail
  refine (dead_any wc bd bs lv d (unhide HD)).mono ?_
  rintro e w2 ⟨rfl, hw2⟩
  have hw2 := hw2.symm
  subst hw2
  rcases unhide HCS with ⟨q1, q2⟩ | ⟨q1, q2, q3⟩ | ⟨q1, q2, q3, q4⟩ | ⟨q1, q2, q3, q4⟩
  · subst q2
    rw [q1]
    clear HCS
    go_wp2_with fail
    go_ret
    exact ⟨rfl, unhide HB⟩
  · subst q3
    rw [q1, q2]
    clear HCS
    go_wp2_with fail
    go_ret
    exact ⟨rfl, unhide HB⟩
  · subst q4
    subst q3
    rw [q1, q2]
    clear HCS
    go_wp2_with fail
    go_ret
    exact ⟨rfl, unhide HB⟩
  · subst q4
    subst q3
    rw [q1, q2]
    clear HCS
    go_wp2_with fail
    go_region_held3 (fun w' => w'.cell? ⟨bw, 2, none⟩ = some (.int .i64 R.many) ∧ w'.cell? ⟨bw, 3, none⟩ = some (.slice so R.sure.length scap) ∧ w'.cell? ⟨bw, 4, none⟩ = some (.slice po R.put.length pcap) ∧ w'.cell? ⟨w.heap.size, 1, none⟩ = some (.int .i64 n)) (go_keep) ((go_at_call 23; (first
      | (refine (rGet_any B wc.drew R (.slice so R.sure.length scap) (.slice po R.put.length pcap) n ?_).mono ?_; (· exact (unhide HRW).drew); rintro e w1 ⟨rfl, b1⟩
         have e1 := (b1.cell (p := ⟨bw, 2, none⟩) l2).trans y2
         have e2 := (b1.cell (p := ⟨bw, 3, none⟩) l2).trans y3
         have e3 := (b1.cell (p := ⟨bw, 4, none⟩) l2).trans y4
         have e4 := (b1.cell (p := ⟨w.heap.size, 1, none⟩) l1).trans c1
         have HB1 := hide ((unhide HB).drew.trans (b1.mono (Nat.le_of_lt l1)))
         clear b1))))
    all_goals
      go_wp2_with fail
      go_ret
      exact ⟨rfl, unhide HB1⟩
end Go.Proofs.Ytcbindgpbeaebaa
