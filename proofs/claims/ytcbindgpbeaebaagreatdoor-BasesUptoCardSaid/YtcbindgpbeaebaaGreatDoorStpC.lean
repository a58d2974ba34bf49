import Derived.Test.YtcbindgpbeaebaaGreatDoorStpA
namespace Go.Proofs.YtcbindgpbeaebaaGreatDoor
open Go.RowKit Go.Deep
attribute [local go_sem ↓] Go.wp_at_zero Go.wp_at_succ

/-- Behind a Read: the node lies in a block of its own. -/
def MidN (W : World) (b : Nat) (x : Nd) (c : Int) (s1 s2 : Value) (wx : World) : Prop :=
  ∃ bx, s1 = .pointer (some ⟨bx, 0, none⟩) ∧ s2 = .int .i64 c ∧ wx.heap[bx]? = some (.cells (ndC x).toArray 76 (0, 0)) ∧ b ≤ bx ∧ Below W.heap.size W wx
theorem cell_set5 (w : World) (g : Nat) (v0 v1 v2 v3 v4 : Value) (b : Addr) (h : ¬ b.block = g) : (((((w.setCell ⟨g, 0, none⟩ v0).setCell ⟨g, 1, none⟩ v1).setCell ⟨g, 2, none⟩ v2).setCell ⟨g, 3, none⟩ v3).setCell ⟨g, 4, none⟩ v4).cell? b = w.cell? b := by
  rw [cell_set_far' _ _ _ _ h, cell_set_far' _ _ _ _ h, cell_set_far' _ _ _ _ h, cell_set_far' _ _ _ _ h, cell_set_far' _ _ _ _ h]

set_option maxRecDepth 100000 in
set_option maxHeartbeats 6400000 in
theorem bstep_read (w : World) (B bw bd bs bb : Nat) (bv ov lv : Value) (tw br : Bool) (lsv : Value) (l l2 : List Nd) (X : List Value) (d : Dk) (n : Int) (s : ByteArray) (lo : Option Addr) (ln lc : Nat) (ko : Option Addr) (kn kc : Nat) (hs : St w B bw bd (.pointer (some ⟨bb, 0, none⟩)) bv ov tw br lsv l l2 X) (hD : DAt w bd bs lv d) (hl : l.length ≤ 60) (hsz : s.size ≤ 4611686018427387903) (c f : Int) (x y : Nd) (hy : rRead s l = .tuple #[ndV y, .int .i64 f])
    (hcase : (c ≠ 9 ∧ c = f ∧ x = y) ∨ (c = 9 ∧ x = zNd ∧ f ≠ 1 ∧ (d.life = 0 ∨ br = true)))
    (hR : ∀ W, Below w.heap.size w W → Calls Tryz.prog 34 #[.pointer (some ⟨bb, 0, none⟩), .string s] W fun e w' => e = .returned (.tuple #[ndV x, .int .i64 c]) ∧ Below W.heap.size W w') :
    Calls Tryz.prog 13 #[.pointer (some ⟨bw, 0, none⟩), .agg #[.int .i64 4, .int .i64 n, .string s, .slice lo ln lc, .slice ko kn kc]] w fun e w' => e = .returned (.bool true) ∧ Below w.heap.size w w' := by
  obtain ⟨bo, bc, hbf⟩ := hs.n1.form
  subst hbf
  obtain ⟨O, hO⟩ : ∃ O : Obj, O = .cells #[.int .i64 4, .int .i64 n, .string s, .slice lo ln lc, .slice ko kn kc] 38 := ⟨_, rfl⟩
  have hs0 := hs.below (below_new w O)
  have hD0 := hD.below (below_new w O)
  have lbw : bw < w.heap.size := lt_of_heap hs.own
  obtain ⟨⟨x0, x1, x2, x3, x4, x5, x6⟩, xz⟩ := bcell hs0.own
  rw [hO] at x0 x1 x2 x3 x4 x5 x6
  obtain ⟨⟨p0, p1, _, _, _, _, _⟩, _⟩ := bcell hs.own
  have HS0 := hide hs0
  have HD0 := hide hD0
  have HR := hide hR
  have HC := hide hcase
  clear hs0 hD0 hR hcase
  have HS := hide hs
  clear hs
  go_enter Tryz.func13, Tryz.ntmps13
  go_wp2_with fail
  rw [← hO]
  refine (dead_any _ bd bs lv d (unhide HD0)).mono ?_
  rintro e w1 ⟨rfl, hw1⟩
  have hw1 := hw1.symm
  subst hw1
  rw [← hO] at x0 x1 x2 x3 x4 x5 x6
  have bO : (w.alloc O).heap[w.heap.size]? = some (.cells #[.int .i64 4, .int .i64 n, .string s, .slice lo ln lc, .slice ko kn kc] 38 (0, 0)) := by rw [hO]; exact heap_alloc_new w _
  have kk : (w.alloc O).cell? ⟨w.heap.size, 0, none⟩ = some (.int .i64 4) := (cell_of_row _ _ 0 _ _ _ bO).trans rfl
  have kp : (w.alloc O).cell? ⟨w.heap.size, 2, none⟩ = some (.string s) := (cell_of_row _ _ 2 _ _ _ bO).trans rfl
  have HBO := hide bO
  clear hO bO
  obtain ⟨W, hW⟩ : ∃ W, W = w.alloc O := ⟨_, rfl⟩
  have hbW : Below w.heap.size w W := by rw [hW]; exact below_new w O
  have lbW : w.heap.size < W.heap.size := by rw [hW]; simp
  rw [← hW] at kk kp x0 x1 x2 x3 x4 x5 x6 HS0 HD0 HBO ⊢
  clear hW
  have lbw' : bw < W.heap.size := by omega
  go_wp2_with fail
  go_cut [10, 11] (fun s10 s11 wx => MidN W W.heap.size x c s10 s11 wx)
  case first =>
    have m1 : ¬ bw = W.heap.size := by omega
    have m2 : ¬ w.heap.size = W.heap.size := by omega
    go_region_held3 (fun w' => w'.cell? ⟨bw, 1, none⟩ = some (.pointer (some ⟨bb, 0, none⟩)) ∧ w'.cell? ⟨w.heap.size, 2, none⟩ = some (.string s)) (first | go_keep | exact ⟨(cell_set5 _ _ _ _ _ _ _ _ (by assumption)).trans e1, (cell_set5 _ _ _ _ _ _ _ _ (by assumption)).trans e2⟩) ((go_at_call 34; (first
      | (refine ((unhide HR) W.drew hbW.drew).mono ?_; rintro e w2 ⟨rfl, hb2⟩; unfold ndV; have e1 := (hb2.cell (p := ⟨bw, 1, none⟩) lbw').trans x1; have e2 := (hb2.cell (p := ⟨w.heap.size, 2, none⟩) lbW).trans kp; have sw : W.heap.size ≤ w2.heap.size := hb2.size; have n1 : ¬ bw = w2.heap.size := (by omega); have n2 : ¬ w.heap.size = w2.heap.size := (by omega); have HB2 := hide hb2; clear hb2)
      | (have ls : W.heap.size < (W.alloc (.cells #[.string ⟨#[]⟩, .int .i64 0, .int .i64 0, .int .i64 0, .string ⟨#[]⟩] 76)).drew.heap.size := (by show _ < (W.alloc _).heap.size; simp); refine ((unhide HR) (W.alloc (.cells #[.string ⟨#[]⟩, .int .i64 0, .int .i64 0, .int .i64 0, .string ⟨#[]⟩] 76)).drew (hbW.alloc (by omega) _).drew).mono ?_; rintro e w2 ⟨rfl, hb2⟩; unfold ndV; have e1 := (hb2.cell (p := ⟨bw, 1, none⟩) (Nat.lt_trans lbw' ls)).trans ((World.cell?_of_block (Below.heap_alloc W _ bw lbw')).trans x1); have e2 := (hb2.cell (p := ⟨w.heap.size, 2, none⟩) (Nat.lt_trans lbW ls)).trans ((World.cell?_of_block (Below.heap_alloc W _ w.heap.size lbW)).trans kp); have bk := (hb2.block W.heap.size ls).trans (heap_alloc_new W _); obtain ⟨k0, k1, k2, k3, k4⟩ := five_cells bk; obtain ⟨q0, q1, q2, q3, q4⟩ := five_frozen bk; have HBK := hide bk; have HB2 := hide hb2; clear hb2 bk))))
    all_goals
      go_wp2_with fail
      go_meet
    · have hb0 := unhide HB2
      have hb : Below W.heap.size W w2 := ⟨hb0.os, hb0.tape, hb0.output, hb0.size, hb0.block⟩
      exact ⟨w2.heap.size, rfl, rfl, heap_alloc_new w2 _, hb.size, hb.alloc hb.size _⟩
    · have hb0 := unhide HB2
      have hb : Below W.heap.size W w2 := by
        have h1 : Below W.heap.size W (W.alloc (.cells #[.string ⟨#[]⟩, .int .i64 0, .int .i64 0, .int .i64 0, .string ⟨#[]⟩] 76)) := below_new _ _
        have h2 : Below (W.alloc (.cells #[.string ⟨#[]⟩, .int .i64 0, .int .i64 0, .int .i64 0, .string ⟨#[]⟩] 76)).heap.size (W.alloc (.cells #[.string ⟨#[]⟩, .int .i64 0, .int .i64 0, .int .i64 0, .string ⟨#[]⟩] 76)) w2 := ⟨hb0.os, hb0.tape, hb0.output, hb0.size, hb0.block⟩
        exact h1.trans (h2.mono h1.size)
      exact ⟨W.heap.size, rfl, rfl, set5 (o := 0) (unhide HBK), Nat.le_refl _, ((((hb.setCell (p := ⟨W.heap.size, 0, none⟩) (Nat.le_refl _) _).setCell (p := ⟨W.heap.size, 1, none⟩) (Nat.le_refl _) _).setCell (p := ⟨W.heap.size, 2, none⟩) (Nat.le_refl _) _).setCell (p := ⟨W.heap.size, 3, none⟩) (Nat.le_refl _) _).setCell (p := ⟨W.heap.size, 4, none⟩) (Nat.le_refl _) _⟩
  case rest =>
  obtain ⟨bx, rfl, rfl, hbx, hlx, hb1⟩ := hcut
  have hs1 := (unhide HS0).below hb1
  clear x0 x1 x2 x3 x4 x5 x6 xz
  obtain ⟨⟨x0, x1, x2, x3, x4, x5, x6⟩, xz⟩ := bcell hs1.own
  have kp1 := (hb1.cell (p := ⟨w.heap.size, 2, none⟩) lbW).trans kp
  have lx := lt_of_heap hbx
  have hsW := hb1.size
  have lbc : bw < wc.heap.size := by omega
  have lbO : w.heap.size < wc.heap.size := by omega
  have hrd := fun (V : World) (hV : NAt V (.slice bo l.length bc) l) => bRead_any V (.slice bo l.length bc) l s hV (by omega) hsz
  rw [hy] at hrd
  have HRD := hide hrd
  have HB1 := hide hb1
  have HBX := hide hbx
  have HS1 := hide hs1
  clear hrd hb1 hbx hs1 kp kk
  obtain ⟨V, hV⟩ : ∃ V, V = wc := ⟨_, rfl⟩
  rw [← hV] at HB1 HBX HS1 kp1 x0 x1 x2 x3 x4 x5 x6 lx hsW lbc lbO ⊢
  clear hV
  go_wp2_with fail
  go_cut [12, 13] (fun s12 s13 wx => MidN V V.heap.size y f s12 s13 wx)
  case first =>
    have m1 : ¬ bw = V.heap.size := by omega
    have m2 : ¬ w.heap.size = V.heap.size := by omega
    go_region_held3 (fun w' => w'.cell? ⟨bw, 2, none⟩ = some (.slice bo l.length bc) ∧ w'.cell? ⟨w.heap.size, 2, none⟩ = some (.string s)) (first | go_keep | exact ⟨(cell_set5 _ _ _ _ _ _ _ _ (by assumption)).trans e1, (cell_set5 _ _ _ _ _ _ _ _ (by assumption)).trans e2⟩) ((go_at_call 43; (first
      | (refine ((unhide HRD) V.drew (unhide HS1).n1.drew).mono ?_; rintro e w2 ⟨rfl, hb2⟩; unfold ndV; have e1 := (hb2.cell (p := ⟨bw, 2, none⟩) lbc).trans x2; have e2 := (hb2.cell (p := ⟨w.heap.size, 2, none⟩) lbO).trans kp1; have sw : V.heap.size ≤ w2.heap.size := hb2.size; have n1 : ¬ bw = w2.heap.size := (by omega); have n2 : ¬ w.heap.size = w2.heap.size := (by omega); have HB2 := hide hb2; clear hb2)
      | (have ls : V.heap.size < (V.alloc (.cells #[.string ⟨#[]⟩, .int .i64 0, .int .i64 0, .int .i64 0, .string ⟨#[]⟩] 76)).drew.heap.size := (by show _ < (V.alloc _).heap.size; simp); refine ((unhide HRD) (V.alloc (.cells #[.string ⟨#[]⟩, .int .i64 0, .int .i64 0, .int .i64 0, .string ⟨#[]⟩] 76)).drew ((unhide HS1).n1.alloc _).drew).mono ?_; rintro e w2 ⟨rfl, hb2⟩; unfold ndV; have e1 := (hb2.cell (p := ⟨bw, 2, none⟩) (Nat.lt_trans lbc ls)).trans ((World.cell?_of_block (Below.heap_alloc V _ bw lbc)).trans x2); have e2 := (hb2.cell (p := ⟨w.heap.size, 2, none⟩) (Nat.lt_trans lbO ls)).trans ((World.cell?_of_block (Below.heap_alloc V _ w.heap.size lbO)).trans kp1); have bk := (hb2.block V.heap.size ls).trans (heap_alloc_new V _); obtain ⟨k0, k1, k2, k3, k4⟩ := five_cells bk; obtain ⟨q0, q1, q2, q3, q4⟩ := five_frozen bk; have HBK := hide bk; have HB2 := hide hb2; clear hb2 bk))))
    all_goals
      go_wp2_with fail
      go_meet
    · have hb0 := unhide HB2
      have hb : Below V.heap.size V w2 := ⟨hb0.os, hb0.tape, hb0.output, hb0.size, hb0.block⟩
      exact ⟨w2.heap.size, rfl, rfl, heap_alloc_new w2 _, hb.size, hb.alloc hb.size _⟩
    · have hb0 := unhide HB2
      have hb : Below V.heap.size V w2 := by
        have h1 : Below V.heap.size V (V.alloc (.cells #[.string ⟨#[]⟩, .int .i64 0, .int .i64 0, .int .i64 0, .string ⟨#[]⟩] 76)) := below_new _ _
        have h2 : Below (V.alloc (.cells #[.string ⟨#[]⟩, .int .i64 0, .int .i64 0, .int .i64 0, .string ⟨#[]⟩] 76)).heap.size (V.alloc (.cells #[.string ⟨#[]⟩, .int .i64 0, .int .i64 0, .int .i64 0, .string ⟨#[]⟩] 76)) w2 := ⟨hb0.os, hb0.tape, hb0.output, hb0.size, hb0.block⟩
        exact h1.trans (h2.mono h1.size)
      exact ⟨V.heap.size, rfl, rfl, set5 (o := 0) (unhide HBK), Nat.le_refl _, ((((hb.setCell (p := ⟨V.heap.size, 0, none⟩) (Nat.le_refl _) _).setCell (p := ⟨V.heap.size, 1, none⟩) (Nat.le_refl _) _).setCell (p := ⟨V.heap.size, 2, none⟩) (Nat.le_refl _) _).setCell (p := ⟨V.heap.size, 3, none⟩) (Nat.le_refl _) _).setCell (p := ⟨V.heap.size, 4, none⟩) (Nat.le_refl _) _⟩
  case rest =>
  obtain ⟨b2, rfl, rfl, hby, hly, hb2⟩ := hcut
  have hbx2 := (hb2.block bx lx).trans (unhide HBX)
  have own2 := (hb2.block bw lbc).trans (unhide HS1).own
  clear x0 x1 x2 x3 x4 x5 x6 xz
  obtain ⟨⟨x0, x1, x2, x3, x4, x5, x6⟩, xz⟩ := bcell own2
  obtain ⟨a0, a1, a2, a3, a4⟩ := five_cells (v0 := .string x.path) (v1 := .int .i64 x.kind) (v2 := .int .i64 x.mode) (v3 := .int .i64 x.tag) (v4 := .string x.data) hbx2
  obtain ⟨g0, g1, g2, g3, g4⟩ := five_cells (v0 := .string y.path) (v1 := .int .i64 y.kind) (v2 := .int .i64 y.mode) (v3 := .int .i64 y.tag) (v4 := .string y.data) hby
  have hbe : Below w.heap.size w wc := (hbW.trans ((unhide HB1).mono (by omega))).trans (hb2.mono (by omega))
  have HBE := hide hbe
  clear hbx2 own2 hby hb2 hbe
  rcases unhide HC with ⟨h9, rfl, rfl⟩ | ⟨rfl, rfl, h1, hdb⟩
  · have q9 : (c == 9) = false := by simpa using h9
    go_wp2_with fail
    go_ret
    exact ⟨by simp, unhide HBE⟩
  · have q1 : (f != 1) = true := by simpa using h1
    simp only [zNd] at a0 a1 a2 a3 a4
    cases hli : (d.life == 0)
    · have hbr : br = true := hdb.resolve_left (by simpa using hli)
      subst hbr
      go_wp2_with fail
      go_ret
      exact ⟨by simp, unhide HBE⟩
    · go_wp2_with fail
      go_ret
      exact ⟨by simp, unhide HBE⟩
end Go.Proofs.YtcbindgpbeaebaaGreatDoor
