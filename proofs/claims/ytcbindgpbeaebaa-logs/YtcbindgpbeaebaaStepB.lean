import Derived.Test.YtcbindgpbeaebaaStepA
namespace Go.Proofs.Ytcbindgpbeaebaa
open Go.RowKit Go.Deep
attribute [local go_sem ↓] Go.wp_at_zero Go.wp_at_succ

theorem Sys.drew {w : World} {B bl bd bs : Nat} {pv lv : Value} {ps : List (Nat × ByteArray)} {br : Bool} {d : Dk} (s : Sys w B bl bd bs pv lv ps br d) : Sys w.drew B bl bd bs pv lv ps br d :=
  ⟨s.log.kept fun _ _ _ => rfl, s.disk.drew, s.sep, s.base⟩
theorem RAt.drew {B : Nat} {w : World} {R : Rf} {sv pv : Value} (h : RAt B w R sv pv) : RAt B w.drew R sv pv := ⟨h.sure.drew, h.put.drew, h.sl, h.pl⟩
/-- A call that turns the log alone keeps a block of another type. -/
theorem LAt.keep {w w' : World} {bl bd : Nat} {pv pv' : Value} {ps : List (Nat × ByteArray)} {br : Bool} (h : LAt w bl bd pv ps br) (st : DStep bl bl pv pv' w w') {k : Nat} {cs : Array Value} {t : TypeId} {fr : Nat × Nat} (hk : w.heap[k]? = some (.cells cs t fr))
    (h2 : t ≠ 63) (h3 : t ≠ 67) : w'.heap[k]? = some (.cells cs t fr) :=
  (st.block k (lt_of_heap hk) (blk_ne hk h.own h2) (blk_ne hk h.own h2) (ownsRow_ne h.puts hk (Ne.symm h3))).trans hk
theorem RAt.keepL {w w' : World} {C bl bd : Nat} {pv pv' : Value} {ps : List (Nat × ByteArray)} {br : Bool} {R : Rf} {sv rv : Value} (hr : RAt C w R sv rv) (h : LAt w bl bd pv ps br) (st : DStep bl bl pv pv' w w') : RAt C w' R sv rv := by
  refine ⟨ownsRow_kept hr.sure fun g hg => ?_, ownsRow_kept hr.put fun g hg => ?_, hr.sl, hr.pl⟩
  · obtain ⟨cur, hc⟩ := ownsRow_blk hr.sure hg
    rw [h.keep st hc (by decide) (by decide), hc]
  · obtain ⟨cur, hc⟩ := ownsRow_blk hr.put hg
    rw [h.keep st hc (by decide) (by decide), hc]

set_option maxRecDepth 100000 in
set_option maxHeartbeats 1600000 in
theorem step_commit (w : World) (bw bl : Nat) (n : Int) (s : ByteArray) (kv : Value) (Q : World → Prop) (hbw : bw < w.heap.size) (h1 : w.cell? ⟨bw, 1, none⟩ = some (.pointer (some ⟨bl, 0, none⟩)))
    (h : ∀ o, Calls Try.prog 26 #[.pointer (some ⟨bw, 0, none⟩)] (w.alloc o) fun e w' => e = .returned (.bool true) ∧ Q w') :
    Calls Try.prog 9 #[.pointer (some ⟨bw, 0, none⟩), .agg #[.int .i64 5, .int .i64 n, .string s, kv]] w fun e w' => e = .returned (.bool true) ∧ Q w' := by
  go_enter Try.func9, Try.ntmps9
  go_wp2_with fail
  refine (h _).mono ?_
  rintro e w1 ⟨rfl, hq⟩
  go_wp2_with fail
  go_ret
  exact ⟨rfl, hq⟩

set_option maxRecDepth 100000 in
set_option maxHeartbeats 1600000 in
theorem step_other (w : World) (bw bl : Nat) (k n : Int) (s : ByteArray) (kv : Value) (hbw : bw < w.heap.size) (h1 : w.cell? ⟨bw, 1, none⟩ = some (.pointer (some ⟨bl, 0, none⟩))) (hk1 : (k == 1) = false) (hk2 : (k == 11) = false) (hk3 : (k == 12) = false) (hk4 : (k == 13) = false)
    (j2 : (k == 2) = false) (j3 : (k == 3) = false) (j4 : (k == 4) = false) (j5 : (k == 5) = false) (j6 : (k == 6) = false) :
    Calls Try.prog 9 #[.pointer (some ⟨bw, 0, none⟩), .agg #[.int .i64 k, .int .i64 n, .string s, kv]] w fun e w' => e = .returned (.bool true) ∧ ∃ o, w' = w.alloc o := by
  go_enter Try.func9, Try.ntmps9
  go_wp2_with fail
  go_ret
  exact ⟨rfl, _, rfl⟩

set_option maxRecDepth 100000 in
set_option maxHeartbeats 1600000 in
theorem step_blocks (w : World) (B bw bl bd bs : Nat) (pv lv : Value) (ps : List (Nat × ByteArray)) (br : Bool) (d : Dk) (n : Int) (s : ByteArray) (kv : Value) (hbw : bw < w.heap.size) (sy : Sys w B bl bd bs pv lv ps br d) (hn : d.safe.length ≤ 4096) (h0 : w.cell? ⟨bw, 0, none⟩ = some (.pointer (some ⟨bd, 0, none⟩))) (h1 : w.cell? ⟨bw, 1, none⟩ = some (.pointer (some ⟨bl, 0, none⟩))) :
    Calls Try.prog 9 #[.pointer (some ⟨bw, 0, none⟩), .agg #[.int .i64 6, .int .i64 n, .string s, kv]] w fun e w' => e = .returned (.bool true) ∧ ∃ o, w' = w.alloc o := by
  go_enter Try.func9, Try.ntmps9
  go_wp2_with fail
  refine (lblocks_any _ bl bd bs lv d (sy.alloc _).log.c0 (sy.alloc _).disk hn).mono ?_
  rintro e w1 ⟨rfl, hw1⟩
  have hw1 := hw1.symm
  subst hw1
  go_wp2_with fail
  refine (dblocks_any _ bd bs lv d (sy.alloc _).disk).mono ?_
  rintro e w1 ⟨rfl, hw1⟩
  have hw1 := hw1.symm
  subst hw1
  go_wp2_with fail
  go_ret
  exact ⟨rfl, _, rfl⟩

set_option maxRecDepth 100000 in
set_option maxHeartbeats 3200000 in
theorem step_drop (w : World) (B bw bl bd bs : Nat) (pv lv : Value) (ps : List (Nat × ByteArray)) (d : Dk) (R R2 : Rf) (sv rv sv2 rv2 : Value) (tw br : Bool) (n : Int) (s : ByteArray) (kv : Value) (sy : Sys w B bl bd bs pv lv ps br d)
    (hw : w.heap[bw]? = some (.cells (wcells bd (.pointer (some ⟨bl, 0, none⟩)) R R2 sv rv sv2 rv2 tw br) 32 (0, 0))) (hBw : B ≤ bw) (hr : RAt B w R sv rv) (hr2 : RAt B w R2 sv2 rv2) :
    Calls Try.prog 9 #[.pointer (some ⟨bw, 0, none⟩), .agg #[.int .i64 4, .int .i64 n, .string s, kv]] w fun e w' => ∃ sv', e = .returned (.bool true) ∧ Sys w' B bl bd bs (.slice none 0 0) lv [] br d ∧
      w'.heap[bw]? = some (.cells (wcells bd (.pointer (some ⟨bl, 0, none⟩)) { R with put := [] } R2 sv' (.slice none 0 0) sv2 rv2 tw br) 32 (0, 0)) ∧ RAt B w' { R with put := [] } sv' (.slice none 0 0) ∧ RAt B w' R2 sv2 rv2 ∧ Below B w w' := by
  obtain ⟨so, scap, hsv⟩ := ownsRow_form hr.sure.base0
  obtain ⟨po, pcap, hpv⟩ := ownsRow_form hr.put.base0
  subst hsv hpv
  have hbw : bw < w.heap.size := lt_of_heap hw
  obtain ⟨⟨x0, x1, x2, x3, x4, x5, x6, x7, x8, x9⟩, xz⟩ := wcell hw
  have HW := hide hw
  clear hw
  go_enter Try.func9, Try.ntmps9
  go_wp2_with fail
  generalize hO : (Obj.cells #[Value.int IntKind.i64 4, Value.int IntKind.i64 n, Value.string s, kv] 38 : Obj) = O
  have sA := sy.alloc O
  have hA := (Below.heap_alloc w O bw hbw).trans (unhide HW)
  refine (drop_any _ bl bd pv ps br sA.log).mono ?_
  rintro e w1 ⟨rfl, l1, st1⟩
  obtain ⟨s1, b1⟩ := sA.ofLog l1 st1
  have h1 := sA.log.keep st1 hA (by decide) (by decide)
  have r1 := (hr.alloc O).keepL sA.log st1
  have r2 := (hr2.alloc O).keepL sA.log st1
  have bB := ((Below.refl B w).alloc sy.base O).trans b1
  obtain ⟨⟨y0, y1, y2, y3, y4, y5, y6, y7, y8, y9⟩, yz⟩ := wcell h1
  have H1 := hide h1
  have HS1 := hide s1
  have HR1 := hide r1
  have HR2 := hide r2
  have HB := hide bB
  clear h1 s1 r1 r2 bB b1 l1 st1 sA hA x0 x1 x2 x3 x4 x5 x6 x7 x8 x9 xz
  go_wp2_with fail
  refine (rDrop_any B w1 R (.slice so R.sure.length scap) (.slice po R.put.length pcap) (unhide HR1)).mono ?_
  rintro e w2 ⟨sv2', rfl, r2', b2⟩
  obtain ⟨so2, scap2, hsv2⟩ := ownsRow_form r2'.sure.base0
  subst hsv2
  have h2 := (b2.block bw (lt_of_heap (unhide H1))).trans (unhide H1)
  obtain ⟨⟨z0, z1, z2, z3, z4, z5, z6, z7, z8, z9⟩, zz⟩ := wcell h2
  have st := struct3 ((unhide HS1).below b2) r2' ((unhide HR2).below b2) ((unhide HB).trans (b2.mono (unhide HS1).base)) h2 hBw 2 (.int .i64 R.many) 3 (.slice so2 R.sure.length scap2) 4 (.slice none 0 0)
  have HST := hide st
  clear st r2' b2 h2 y0 y1 y2 y3 y4 y5 y6 y7 y8 y9 yz
  go_wp2_with fail
  go_ret
  obtain ⟨t1, t2, t3, t4, t5⟩ := unhide HST
  exact ⟨.slice so2 R.sure.length scap2, rfl, t1, by rw [t2]; rfl, t3.base (unhide HS1).base, t4, t5⟩
end Go.Proofs.Ytcbindgpbeaebaa
