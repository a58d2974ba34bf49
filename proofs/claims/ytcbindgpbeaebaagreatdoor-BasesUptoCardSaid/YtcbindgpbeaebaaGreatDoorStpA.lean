import Derived.Test.YtcbindgpbeaebaaGreatDoorOneE
namespace Go.Proofs.YtcbindgpbeaebaaGreatDoor
open Go.RowKit Go.Deep
attribute [local go_sem ↓] Go.wp_at_zero Go.wp_at_succ

set_option maxRecDepth 100000 in
set_option maxHeartbeats 1600000 in
theorem bstep_open (w : World) (bw : Nat) (n : Int) (s : ByteArray) (lo : Option Addr) (ln lc : Nat) (ko : Option Addr) (kn kc : Nat) (Q : World → Prop)
    (h : ∀ o, Calls Tryz.prog 35 #[.pointer (some ⟨bw, 0, none⟩)] (w.alloc o) fun e w' => e = .returned (.bool true) ∧ Q w') :
    Calls Tryz.prog 13 #[.pointer (some ⟨bw, 0, none⟩), .agg #[.int .i64 1, .int .i64 n, .string s, .slice lo ln lc, .slice ko kn kc]] w fun e w' => e = .returned (.bool true) ∧ Q w' := by
  go_enter Tryz.func13, Tryz.ntmps13
  go_wp2_with fail
  refine (h _).mono ?_
  rintro e w1 ⟨rfl, hq⟩
  go_wp2_with fail
  go_ret
  exact ⟨rfl, hq⟩

set_option maxRecDepth 100000 in
set_option maxHeartbeats 1600000 in
theorem bstep_fail (w : World) (bw bd : Nat) (n : Int) (s : ByteArray) (lo : Option Addr) (ln lc : Nat) (ko : Option Addr) (kn kc : Nat) (Q : World → Prop) (hbw : bw < w.heap.size) (h0 : w.cell? ⟨bw, 0, none⟩ = some (.pointer (some ⟨bd, 0, none⟩)))
    (h : ∀ o, Calls Tryz.prog 36 #[.pointer (some ⟨bd, 0, none⟩), .int .i64 n] (w.alloc o).drew fun e w' => e = .returned (.tuple #[]) ∧ Q w') :
    Calls Tryz.prog 13 #[.pointer (some ⟨bw, 0, none⟩), .agg #[.int .i64 11, .int .i64 n, .string s, .slice lo ln lc, .slice ko kn kc]] w fun e w' => e = .returned (.bool true) ∧ Q w' := by
  go_enter Tryz.func13, Tryz.ntmps13
  go_wp2_with fail
  go_region_with ((go_at_call 36; refine (h _).mono ?_; rintro e w2 ⟨rfl, hq⟩))
  all_goals
    go_wp2_with fail
    go_ret
    exact ⟨rfl, hq⟩

set_option maxRecDepth 100000 in
set_option maxHeartbeats 1600000 in
theorem bstep_die (w : World) (bw bd : Nat) (n : Int) (s : ByteArray) (lo : Option Addr) (ln lc : Nat) (ko : Option Addr) (kn kc : Nat) (Q : World → Prop) (hbw : bw < w.heap.size) (h0 : w.cell? ⟨bw, 0, none⟩ = some (.pointer (some ⟨bd, 0, none⟩)))
    (h : ∀ o, Calls Tryz.prog 30 #[.pointer (some ⟨bd, 0, none⟩), .int .i64 n] (w.alloc o).drew fun e w' => e = .returned (.tuple #[]) ∧ Q w') :
    Calls Tryz.prog 13 #[.pointer (some ⟨bw, 0, none⟩), .agg #[.int .i64 12, .int .i64 n, .string s, .slice lo ln lc, .slice ko kn kc]] w fun e w' => e = .returned (.bool true) ∧ Q w' := by
  go_enter Tryz.func13, Tryz.ntmps13
  go_wp2_with fail
  go_region_with ((go_at_call 30; refine (h _).mono ?_; rintro e w2 ⟨rfl, hq⟩))
  all_goals
    go_wp2_with fail
    go_ret
    exact ⟨rfl, hq⟩

set_option maxRecDepth 100000 in
set_option maxHeartbeats 1600000 in
theorem bstep_crash (w : World) (bw bd : Nat) (n : Int) (s : ByteArray) (lo : Option Addr) (ln lc : Nat) (ko : Option Addr) (kn kc : Nat) (Q : World → Prop) (hbw : bw < w.heap.size) (h0 : w.cell? ⟨bw, 0, none⟩ = some (.pointer (some ⟨bd, 0, none⟩))) (xv : Value) (h1 : w.cell? ⟨bw, 1, none⟩ = some xv) (hz : ∀ i, w.frozen? ⟨bw, i, none⟩ = false)
    (h : ∀ o, Calls Tryz.prog 28 #[.pointer (some ⟨bd, 0, none⟩), .slice ko kn kc] ((w.setCell ⟨bw, 1, none⟩ (.pointer none)).alloc o).drew fun e w' => e = .returned (.tuple #[]) ∧ Q w') :
    Calls Tryz.prog 13 #[.pointer (some ⟨bw, 0, none⟩), .agg #[.int .i64 13, .int .i64 n, .string s, .slice lo ln lc, .slice ko kn kc]] w fun e w' => e = .returned (.bool true) ∧ Q w' := by
  have nb : ¬ w.heap.size = bw := by omega
  go_enter Tryz.func13, Tryz.ntmps13
  go_wp2_with fail
  go_region_with ((go_at_call 28; refine (h _).mono ?_; rintro e w2 ⟨rfl, hq⟩))
  all_goals
    go_wp2_with fail
    go_ret
    exact ⟨rfl, hq⟩

set_option maxRecDepth 100000 in
set_option maxHeartbeats 1600000 in
theorem bstep_nil (w : World) (bw : Nat) (k : Int) (n : Int) (s : ByteArray) (lo : Option Addr) (ln lc : Nat) (ko : Option Addr) (kn kc : Nat) (hbw : bw < w.heap.size) (h1 : w.cell? ⟨bw, 1, none⟩ = some (.pointer none)) (hk1 : (k == 1) = false) (hk2 : (k == 11) = false) (hk3 : (k == 12) = false) (hk4 : (k == 13) = false) :
    Calls Tryz.prog 13 #[.pointer (some ⟨bw, 0, none⟩), .agg #[.int .i64 k, .int .i64 n, .string s, .slice lo ln lc, .slice ko kn kc]] w fun e w' => e = .returned (.bool true) ∧ ∃ o, w' = w.alloc o := by
  go_enter Tryz.func13, Tryz.ntmps13
  go_wp2_with fail
  go_ret
  exact ⟨rfl, _, rfl⟩

set_option maxRecDepth 100000 in
set_option maxHeartbeats 1600000 in
theorem bstep_does (w : World) (bw bb : Nat) (n : Int) (s : ByteArray) (lo : Option Addr) (ln lc : Nat) (ko : Option Addr) (kn kc : Nat) (Q : World → Prop) (hbw : bw < w.heap.size) (h1 : w.cell? ⟨bw, 1, none⟩ = some (.pointer (some ⟨bb, 0, none⟩)))
    (h : ∀ o, Calls Tryz.prog 37 #[.pointer (some ⟨bw, 0, none⟩), .slice lo ln lc] (w.alloc o) fun e w' => e = .returned (.bool true) ∧ Q w') :
    Calls Tryz.prog 13 #[.pointer (some ⟨bw, 0, none⟩), .agg #[.int .i64 2, .int .i64 n, .string s, .slice lo ln lc, .slice ko kn kc]] w fun e w' => e = .returned (.bool true) ∧ Q w' := by
  go_enter Tryz.func13, Tryz.ntmps13
  go_wp2_with fail
  refine (h _).mono ?_
  rintro e w1 ⟨rfl, hq⟩
  go_wp2_with fail
  go_ret
  exact ⟨rfl, hq⟩

set_option maxRecDepth 100000 in
set_option maxHeartbeats 1600000 in
theorem bstep_other (w : World) (bw bb bd bs : Nat) (lv : Value) (d : Dk) (k : Int) (n : Int) (s : ByteArray) (lo : Option Addr) (ln lc : Nat) (ko : Option Addr) (kn kc : Nat) (hbw : bw < w.heap.size) (hD : DAt w bd bs lv d) (h0 : w.cell? ⟨bw, 0, none⟩ = some (.pointer (some ⟨bd, 0, none⟩))) (h1 : w.cell? ⟨bw, 1, none⟩ = some (.pointer (some ⟨bb, 0, none⟩))) (hk1 : (k == 1) = false) (hk2 : (k == 11) = false) (hk3 : (k == 12) = false) (hk4 : (k == 13) = false) (j2 : (k == 2) = false) (j3 : (k == 3) = false) (j4 : (k == 4) = false) :
    Calls Tryz.prog 13 #[.pointer (some ⟨bw, 0, none⟩), .agg #[.int .i64 k, .int .i64 n, .string s, .slice lo ln lc, .slice ko kn kc]] w fun e w' => e = .returned (.bool true) ∧ ∃ o, w' = w.alloc o := by
  go_enter Tryz.func13, Tryz.ntmps13
  go_wp2_with fail
  refine (dead_any _ bd bs lv d (hD.below (below_new w _))).mono ?_
  rintro e w1 ⟨rfl, hw1⟩
  have hw1 := hw1.symm
  subst hw1
  go_wp2_with fail
  go_ret
  exact ⟨rfl, _, rfl⟩
end Go.Proofs.YtcbindgpbeaebaaGreatDoor

namespace Go.Proofs.YtcbindgpbeaebaaGreatDoor
open Go.RowKit Go.Deep
attribute [local go_sem ↓] Go.wp_at_zero Go.wp_at_succ

/-- Behind 'keep': the struct and its lists, with four lists more. -/
theorem St.keep {w w1 w' : World} {B C bw bd : Nat} {xv bv ov : Value} {tw br : Bool} {lsv : Value} {l l2 : List Nd} {X : List Value} {e : Ending} (h : St w B bw bd xv bv ov tw br lsv l l2 X) (hC : w.heap.size ≤ C) (h1 : Below w.heap.size w w1) (hk : KeepPost w1 C B bw bd xv bv ov tw br lsv X e w') :
    e = .returned (.tuple #[]) ∧ ∃ ls2 X2, St w' B bw bd xv bv ov tw br ls2 l l2 X2 ∧ X2.length = X.length + 4 ∧ w1.heap.size ≤ w'.heap.size ∧ w'.os = w1.os ∧ w'.tape = w1.tape ∧ w'.output = w1.output ∧ ∀ k, k < C → k ≠ bw → lsv.ownBlock ≠ some k → w'.heap[k]? = w1.heap[k]? := by
  obtain ⟨ls2, X2, he, h2, h3, h4, h5, h6, h7, h8, h9, _⟩ := hk
  have go : ∀ {v : Value} {m : List Nd}, NAt w v m → NAt w' v m := fun {v m} hv => ownsRow_kept hv fun g hg => by
    obtain ⟨cur, hc⟩ := own_blk hv hg
    have hlt := lt_of_heap hc
    refine (h9 g (by omega) (fun e => ?_) (ownsRow_ne h.ls.outer hc (by decide))).trans (h1.block g hlt)
    subst e
    rw [h.own] at hc
    simp only [Option.some.injEq, Obj.cells.injEq] at hc
    exact absurd hc.2.1 (by decide)
  exact ⟨he, ls2, X2, ⟨h2, go h.n1, go h.n2, h3⟩, h4, h5, h6, h7, h8, h9⟩

/-- What a step that hands a list out leaves. -/
def OutPost (w : World) (B bw bd : Nat) (xv bv ov : Value) (tw br : Bool) (lsv : Value) (l l2 : List Nd) (X : List Value) (e : Ending) (w' : World) : Prop :=
  e = .returned (.bool true) ∧ ∃ ls2 X2, St w' B bw bd xv bv ov tw br ls2 l l2 X2 ∧ X2.length = X.length + 4 ∧ Below B w w' ∧ ∀ k, k < w.heap.size → k ≠ bw → lsv.ownBlock ≠ some k → w'.heap[k]? = w.heap[k]?

set_option maxRecDepth 100000 in
set_option maxHeartbeats 3200000 in
theorem bstep_nodes (w : World) (B bw bd bs bb : Nat) (bv ov lv : Value) (tw br : Bool) (lsv : Value) (l l2 : List Nd) (X : List Value) (d : Dk) (n : Int) (s : ByteArray) (lo : Option Addr) (ln lc : Nat) (ko : Option Addr) (kn kc : Nat) (hs : St w B bw bd (.pointer (some ⟨bb, 0, none⟩)) bv ov tw br lsv l l2 X) (hB : B ≤ w.heap.size) (hbw : B ≤ bw) (hD : DAt w bd bs lv d) (hX : X.length + 4 ≤ 100000000) (hl : l.length ≤ 60) (c : Int) (m : List Nd) (hm : m.length ≤ 60)
    (hcase : (c = 0 ∧ m = l) ∨ (c = 9 ∧ m = [] ∧ (d.life = 0 ∨ br = true)))
    (hN : ∀ W, Below w.heap.size w W → Calls Tryz.prog 39 #[.pointer (some ⟨bb, 0, none⟩)] W fun e w' => ∃ v, e = .returned (.tuple #[v, .int .i64 c]) ∧ w'.ownsRow W.heap.size 76 5 v m.length (rowD m) ∧ Below W.heap.size W w') :
    Calls Tryz.prog 13 #[.pointer (some ⟨bw, 0, none⟩), .agg #[.int .i64 3, .int .i64 n, .string s, .slice lo ln lc, .slice ko kn kc]] w (OutPost w B bw bd (.pointer (some ⟨bb, 0, none⟩)) bv ov tw br lsv l l2 X) := by
  obtain ⟨bo, bc, hbf⟩ := hs.n1.form
  subst hbf
  obtain ⟨O, hO⟩ : ∃ O : Obj, O = .cells #[.int .i64 3, .int .i64 n, .string s, .slice lo ln lc, .slice ko kn kc] 38 := ⟨_, rfl⟩
  have hs0 := hs.below (below_new w O)
  have hD0 := hD.below (below_new w O)
  have lbw : bw < w.heap.size := lt_of_heap hs.own
  obtain ⟨⟨x0, x1, x2, x3, x4, x5, x6⟩, xz⟩ := bcell hs0.own
  rw [hO] at x0 x1 x2 x3 x4 x5 x6
  obtain ⟨⟨p0, p1, _, _, _, _, _⟩, _⟩ := bcell hs.own
  have HS0 := hide hs0
  have HD0 := hide hD0
  have HN := hide hN
  have HC := hide hcase
  clear hs0 hD0 hN hcase
  have HS := hide hs
  clear hs
  go_enter Tryz.func13, Tryz.ntmps13
  go_wp2_with fail
  rw [← hO]
  refine (dead_any _ bd bs lv d (unhide HD0)).mono ?_
  rintro e w1 ⟨rfl, hw1⟩
  have hw1 := hw1.symm
  subst hw1
  rw [← hO] at x0 x1 x2 x3 x4 x5 x6
  have kk : (w.alloc O).cell? ⟨w.heap.size, 0, none⟩ = some (.int .i64 3) := by rw [hO]; exact (cell_of_row _ _ 0 _ _ _ (heap_alloc_new w _)).trans rfl
  clear hO
  go_wp2_with fail
  refine ((unhide HN) (w.alloc O) (below_new w O)).mono ?_
  rintro e w1 ⟨v, rfl, hv, hb1⟩
  obtain ⟨vo, vc, hvf⟩ := row_form hv
  subst hvf
  have hs1 := (unhide HS0).below hb1
  clear x0 x1 x2 x3 x4 x5 x6 xz
  obtain ⟨⟨x0, x1, x2, x3, x4, x5, x6⟩, xz⟩ := bcell hs1.own
  have HV := hide hv
  have HB1 := hide hb1
  have HS1 := hide hs1
  clear hv hb1 hs1
  go_wp2_with fail
  refine (bNodes_any w1 (.slice bo l.length bc) l (unhide HS1).n1 (by omega)).mono ?_
  rintro e w2 ⟨u, rfl, hu, hb2⟩
  obtain ⟨uo, uc, huf⟩ := row_form hu
  subst huf
  have hv2 : NAt w2 (.slice vo m.length vc) m := (row_below (unhide HV) hb2).base0
  have hu2 : NAt w2 (.slice uo l.length uc) l := hu.base0
  have HV2 := hide (row_below (unhide HV) hb2)
  have HB2 := hide hb2
  clear hu hb2
  go_wp2_with fail
  refine (sameNodes_any w2 (.slice vo m.length vc) (.slice uo l.length uc) m l hv2 hu2 (by omega) (by omega)).mono ?_
  rintro e w3 ⟨rfl, hb3⟩
  have hb13 : Below w1.heap.size w1 w3 := (unhide HB2).trans (hb3.mono (unhide HB2).size)
  have hb03 : Below (w.alloc O).heap.size (w.alloc O) w3 := (unhide HB1).trans (hb13.mono (unhide HB1).size)
  have hs3 := (unhide HS1).below hb13
  have hv3 := row_below (unhide HV2) hb3
  have hC3 := hb03.size
  have hke := keep_any w3 (w.alloc O).heap.size B bw bd (.pointer (some ⟨bb, 0, none⟩)) (.slice bo l.length bc) ov tw br lsv X (.slice vo m.length vc) m.length (rowD m) hs3.own hs3.ls hX hv3 (by omega) hC3 (Nat.le_trans hB (Nat.le_trans (by simp) hC3)) (by simp; omega) (unhide HS0).ls.low
  have HKE := hide hke
  have HB03 := hide hb03
  clear hke hb13 hs3 hv3 hb3
  obtain ⟨b, hb⟩ : ∃ b, b = sameN m l := ⟨_, rfl⟩
  rw [← hb]
  have HBB := hide hb
  clear hb x0 x1 x2 x3 x4 x5 x6 xz
  go_wp2_with fail
  refine (unhide HKE).mono ?_
  intro e w4 hk4
  obtain ⟨rfl, ls2, X2, hs4, hx2, hsz4, ho4, ht4, hp4, hlo4⟩ := (unhide HS0).keep (Nat.le_refl _) (unhide HB03) hk4
  obtain ⟨⟨x0, x1, x2, x3, x4, x5, x6⟩, xz⟩ := bcell hs4.own
  have hlow : ∀ k, k < w.heap.size → k ≠ bw → lsv.ownBlock ≠ some k → w4.heap[k]? = w.heap[k]? := fun k hk h1 h2 => (hlo4 k (by simp; omega) h1 h2).trans (((unhide HB03).block k (by simp; omega)).trans (Below.heap_alloc _ _ _ hk))
  have hbel : Below B w w4 := by
    have b3 := unhide HB03
    refine ⟨ho4.trans b3.os, ht4.trans b3.tape, hp4.trans b3.output, ?_, fun k hk => hlow k (by omega) (by omega) fun e => ?_⟩
    · have : w.heap.size ≤ (w.alloc O).heap.size := by simp
      omega
    · have := ((unhide HS).ls.outer.lt k e).1
      omega
  have HPO := hide (show OutPost w B bw bd (.pointer (some ⟨bb, 0, none⟩)) (.slice bo l.length bc) ov tw br lsv l l2 X (.returned (.bool true)) w4 from ⟨rfl, ls2, X2, hs4, hx2, hbel, hlow⟩)
  clear hs4 hlo4 hlow hbel ho4 ht4 hp4 hk4
  rcases unhide HC with ⟨rfl, hml⟩ | ⟨rfl, rfl, hdb⟩
  · have hbt : b = true := by rw [unhide HBB]; exact (sameN_iff m l).2 hml
    subst hbt
    go_wp2_with fail
    go_ret
    exact unhide HPO
  · cases hli : (d.life == 0)
    · have hbr : br = true := hdb.resolve_left (by simpa using hli)
      subst hbr
      go_wp2_with fail
      go_ret
      exact unhide HPO
    · go_wp2_with fail
      go_ret
      exact unhide HPO
end Go.Proofs.YtcbindgpbeaebaaGreatDoor
