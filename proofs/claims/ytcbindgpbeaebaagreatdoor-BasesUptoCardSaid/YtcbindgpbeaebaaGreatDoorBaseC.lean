import Derived.Test.YtcbindgpbeaebaaGreatDoorBaseB
import Derived.Laws.MakeOwn
import Derived.Test.YtcbindgpbeaebaaGreatDoorPureB
namespace Go.Proofs.YtcbindgpbeaebaaGreatDoor
open Go.RowKit Go.Deep
attribute [local go_sem ↓] Go.wp_at_zero Go.wp_at_succ

theorem splitB_total (sep : ByteArray) (hs : sep.size = 1) : ∀ (k : Nat) (s : ByteArray), s.size + 1 ≤ ((Lib.splitB sep 0 k s).map fun x => x.size + 1).sum
  | 0, s => by simp [Lib.splitB]
  | k + 1, s => by
    unfold Lib.splitB
    split
    · simp
    · have ih := splitB_total sep hs k (s.extract ((Lib.indexB s sep).toNat + sep.size) s.size)
      rw [ByteArray.size_extract] at ih
      rw [List.map_cons, List.sum_cons, ByteArray.size_extract]
      omega
theorem sum_le : ∀ (l : List ByteArray) (c : Nat), (∀ x ∈ l, x.size ≤ c) → (l.map fun x => x.size + 1).sum ≤ l.length * (c + 1)
  | [], _, _ => by simp
  | x :: r, c, h => by
    have ih := sum_le r c fun y hy => h y (by simp [hy])
    have := h x (by simp)
    rw [List.map_cons, List.sum_cons, List.length_cons, Nat.add_mul]
    omega
theorem okPath_size {s : ByteArray} (h : okPath s = true) : s.size ≤ 60 := by
  simp only [okPath, Bool.and_eq_true, decide_eq_true_eq] at h
  have h1 : s.size + 1 ≤ ((cut5 s).map fun x => x.size + 1).sum := splitB_total ⟨#[47]⟩ rfl _ s
  have h2 := sum_le (cut5 s) 8 fun x hx => by
    have := List.all_eq_true.1 h.2 x hx
    simp only [okStep, Bool.and_eq_true, decide_eq_true_eq] at this
    exact this.1.1.1.2
  have := h.1
  omega
theorem okDeed_fit {x : Dd} (h : okDeed x = true) : Fit x := by
  unfold okDeed at h
  rw [Bool.and_eq_true] at h
  obtain ⟨h1, h2⟩ := h
  have hn : x.take = false → okNode x.node = true := fun e => by rw [e] at h2; simpa using h2
  refine ⟨okPath_size h1, fun e => ?_, fun e => ?_, fun e => ?_, fun e => ?_⟩ <;>
    · have hk := hn e
      simp only [okNode, Bool.and_eq_true, decide_eq_true_eq] at hk
      obtain ⟨⟨⟨⟨⟨_, a⟩, b⟩, c⟩, d⟩, f⟩ := hk
      split at f
      · next g =>
        have : x.node.data.size ≤ 400 := by simpa using f
        omega
      · split at f
        · next g =>
          have : x.node.data.size = 0 := by simpa using f
          omega
        · cases f
theorem okDeeds_all {L : List Dd} (h : okDeeds L = true) : L.length ≤ 12 ∧ ∀ x ∈ L, okDeed x = true := by
  simp only [okDeeds, Bool.and_eq_true, decide_eq_true_eq] at h
  exact ⟨h.1, fun x hx => List.all_eq_true.1 h.2 x hx⟩

/-- What a call on a base may turn. -/
structure BStep (bb bl bd bs : Nat) (lv lv' : Value) (w w' : World) : Prop where
  size : w.heap.size ≤ w'.heap.size
  block : ∀ k, k < w.heap.size → k ≠ bb → k ≠ bl → k ≠ bd → k ≠ bs → lv.ownBlock ≠ some k → w'.heap[k]? = w.heap[k]?
  fresh : ∀ g, lv'.ownBlock = some g → lv.ownBlock = some g ∨ w.heap.size ≤ g
/-- How a Do ends. -/
def DoEnd (M : List Pl) (L : List Dd) (d : Dk) (c : Int) (br' : Bool) (d' : Dk) : Prop :=
  (okDeeds L = false ∧ c = 1 ∧ br' = false ∧ d' = d) ∨
  (okDeeds L = true ∧ br' = false ∧ d' = d ∧ c ≠ 0 ∧ ∃ k x M1 ps1 M2 ps2, Chain M [] (L.take k) M1 ps1 ∧ L[k]? = some x ∧ D1 M1 ps1 x c M2 ps2) ∨
  (okDeeds L = true ∧ ∃ M1 ps1, Chain M [] L M1 ps1 ∧ c = (commitL d ps1 false).1 ∧ br' = (commitL d ps1 false).2.2 ∧ d' = (commitL d ps1 false).2.1)
def BDo (w : World) (B bb bl bd bs : Nat) (lv : Value) (d : Dk) (M : List Pl) (L : List Dd) (e : Ending) (w' : World) : Prop :=
  ∃ c lv' br' d', e = .returned (.int .i64 c) ∧ BAt w' bb bl (c == 9) ∧ Sys w' B bl bd bs (.slice none 0 0) lv' [] br' d' ∧ Below B w w' ∧ BStep bb bl bd bs lv lv' w w' ∧ DoEnd M L d c br' d'

theorem BAt.set {w : World} {bb bl : Nat} {bk : Bool} (h : BAt w bb bl bk) (b : Bool) : BAt (w.setCell ⟨bb, 1, none⟩ (.bool b)) bb bl b := by
  refine ⟨?_⟩
  rw [heap_setCell_same w bb 1 _ _ _ h.own]
  rfl
theorem Sys.setB {w : World} {B bb bl bd bs : Nat} {pv lv : Value} {ps : List (Nat × ByteArray)} {br bk : Bool} {d : Dk} (s : Sys w B bl bd bs pv lv ps br d) (h : BAt w bb bl bk) (v : Value) : Sys (w.setCell ⟨bb, 1, none⟩ v) B bl bd bs pv lv ps br d := by
  obtain ⟨cur, hbs, _⟩ := s.disk.sb
  have go : ∀ (k : Nat) (cs : Array Value) (t : TypeId), w.heap[k]? = some (.cells cs t (0, 0)) → t ≠ 143 → (w.setCell ⟨bb, 1, none⟩ v).heap[k]? = w.heap[k]? := fun k cs t hc h1 =>
    Below.heap_setCell _ _ _ _ (ty_ne hc h.own h1)
  refine ⟨s.log.kept fun k hk' e => ?_, s.disk.kept fun k hk' e => ?_, s.sep, by simpa [World.setCell] using s.base⟩
  · rcases e with rfl | e
    · exact go _ _ _ s.log.own (by decide)
    · obtain ⟨c, hc⟩ := row_blk s.log.puts e
      exact go _ _ _ hc (by decide)
  · rcases e with rfl | rfl | e
    · exact go _ _ _ s.disk.own (by decide)
    · exact go _ _ _ hbs (by decide)
    · obtain ⟨c, hc⟩ := row_blk s.disk.late e
      exact go _ _ _ hc (by decide)
theorem bstep_set {w w1 w2 : World} {B bb bl bd bs : Nat} {lv lv' : Value} (h1 : Below w.heap.size w w1) (hs : SStep bl bd bs (.slice none 0 0) lv lv' w1 w2) (hw : B ≤ w.heap.size) (hb : Below B w1 w2) (hB : B ≤ bb) (v : Value) : BStep bb bl bd bs lv lv' w (w2.setCell ⟨bb, 1, none⟩ v) ∧ Below B w (w2.setCell ⟨bb, 1, none⟩ v) := by
  have hz := h1.size
  have hz2 := hs.size
  refine ⟨⟨by simp [World.setCell]; omega, fun k hk h0 g1 g2 g3 g4 => ?_, fun g hg => ?_⟩, ((h1.mono hw).trans hb).setCell (p := ⟨bb, 1, none⟩) hB v⟩
  · rw [Below.heap_setCell _ _ _ _ fun e => h0 e, hs.block k (by omega) g1 g2 g3 (by simp [Value.ownBlock]) g4, h1.block k hk]
  · rcases hs.fresh g hg with e | e
    · exact .inl e
    · exact .inr (by omega)
theorem BAt.keepS {w w' : World} {B bb bl bd bs : Nat} {lv lv' : Value} {br bk : Bool} {d : Dk} (h : BAt w bb bl bk) (s : Sys w B bl bd bs (.slice none 0 0) lv [] br d) (st : SStep bl bd bs (.slice none 0 0) lv lv' w w') : BAt w' bb bl bk := by
  obtain ⟨cur, hbs, _⟩ := s.disk.sb
  exact h.kept (st.block bb h.lt (ty_ne h.own s.log.own (by decide)) (ty_ne h.own s.disk.own (by decide)) (ty_ne h.own hbs (by decide)) (by simp [Value.ownBlock]) (row_ty s.disk.late h.own (by decide)))

set_option maxRecDepth 100000 in
set_option maxHeartbeats 6400000 in
theorem do_any (w : World) (B bb bl bd bs : Nat) (lv : Value) (d : Dk) (v : Value) (L : List Dd) (hB : BAt w bb bl false) (hBb : B ≤ bb) (s : Sys w B bl bd bs (.slice none 0 0) lv [] false d) (ok : d.Ok) (hn3 : 300 ≤ d.safe.length) (hl : d.late = []) (hf : d.life ≠ 0) (hz : ∀ i, i < 120 → (vw d i).size = 256)
    (hD : DsAt w v L) (hpz : ∀ x ∈ L, x.node.path.size ≤ 4611686018427387904) (hL : L.length ≤ 4611686018427387904) :
    Calls Tryz.prog 33 #[.pointer (some ⟨bb, 0, none⟩), v] w (BDo w B bb bl bd bs lv d (loadM (vw d) 60) L) := by
  have hare := areDeeds_any w v L hD hpz hL
  have hw0 := s.base
  obtain ⟨ao, cap, hv⟩ := hD.form
  cases hok : okDeeds L with
  | false =>
    rw [hok] at hare
    subst hv
    go_enter Tryz.func33, Tryz.ntmps33
    go_wp2_with fail
    refine hare.mono ?_
    rintro e w1 ⟨rfl, hb1⟩
    go_wp2_with fail
    go_ret
    exact ⟨1, lv, false, d, rfl, hB.kept (hb1.block bb hB.lt), sys_kept s hb1.size (fun k hk _ => hb1.block k hk), hb1.mono hw0, ⟨hb1.size, fun k hk _ _ _ _ _ => hb1.block k hk, fun g hg => .inl hg⟩, .inl ⟨hok, rfl, rfl, rfl⟩⟩
  | true =>
    obtain ⟨h12, hall⟩ := okDeeds_all hok
    rw [hok] at hare
    have HTR := hide fun (w1 : World) (hb1 : Below w.heap.size w w1) => transact_ok w1 B bb bl bd bs (.slice none 0 0) lv d v L (hB.kept (hb1.block bb hB.lt)) (sys_kept s hb1.size (fun k hk _ => hb1.block k hk)) ok hn3 hl hf hz (hD.below hb1) h12 fun x hx => okDeed_fit (hall x hx)
    have HOK := hide hok
    clear hok
    subst hv
    go_enter Tryz.func33, Tryz.ntmps33
    go_wp2_with fail
    refine hare.mono ?_
    rintro e w1 ⟨rfl, hb1⟩
    go_wp2_with fail
    refine ((unhide HTR) w1 hb1).mono ?_
    have s1 : Sys w1 B bl bd bs (.slice none 0 0) lv [] false d := sys_kept s hb1.size (fun k hk _ => hb1.block k hk)
    have hB1 := hB.kept (hb1.block bb hB.lt)
    rintro e w2 (⟨k, x, c, M1, ps1, M2, ps2, g1, g2, g3, g4, rfl, s2, st2, b2⟩ | ⟨M1, ps1, lv', g1, rfl, s2, st2, b2⟩)
    · have hB2 := hB1.keepS s1 st2
      have c1 := hB2.c1
      have f1 := hB2.fz 1
      go_wp2_with fail
      go_ret
      obtain ⟨q1, q2⟩ := bstep_set hb1 st2 hw0 b2 hBb (.bool (c == 9))
      exact ⟨c, lv, false, d, rfl, hB2.set _, s2.setB hB2 _, q2, q1, .inr (.inl ⟨unhide HOK, rfl, rfl, g4, k, x, M1, ps1, M2, ps2, g1, g2, g3⟩)⟩
    · have hB2 := hB1.keepS s1 st2
      have c1 := hB2.c1
      have f1 := hB2.fz 1
      generalize hc : commitL d ps1 false = r at s2 ⊢
      obtain ⟨c, d', br'⟩ := r
      dsimp only at s2 ⊢
      go_wp2_with fail
      go_ret
      obtain ⟨q1, q2⟩ := bstep_set hb1 st2 hw0 b2 hBb (.bool (c == 9))
      exact ⟨c, lv', br', d', rfl, hB2.set _, s2.setB hB2 _, q2, q1, .inr (.inr ⟨unhide HOK, M1, ps1, g1, by rw [hc], by rw [hc], by rw [hc]⟩)⟩
end Go.Proofs.YtcbindgpbeaebaaGreatDoor

namespace Go.Proofs.YtcbindgpbeaebaaGreatDoor
open Go.RowKit Go.Deep
attribute [local go_sem ↓] Go.wp_at_zero Go.wp_at_succ

def zNd : Nd := ⟨⟨#[]⟩, 0, 0, 0, ⟨#[]⟩⟩
def rdOf : Option Pl → Value
  | some p => .tuple #[ndV p.node, .int .i64 0]
  | none => .tuple #[ndV zNd, .int .i64 4]
/-- What Read answers. -/
def rdRes (q : ByteArray) (M : List Pl) : Value := if okPath q = true then rdOf (getM M q) else .tuple #[ndV zNd, .int .i64 1]

set_option maxRecDepth 100000 in
set_option maxHeartbeats 6400000 in
theorem read_load (w : World) (bb : Nat) (q : ByteArray) (M : List Pl) (hq : q.size ≤ 4611686018427387904) (ho : Ord M) (hM : M.length ≤ 1000000) (hload : ∀ w1, Below w.heap.size w w1 → Calls Tryz.prog 76 #[.pointer (some ⟨bb, 0, none⟩)] w1 (LoadPost w1 M)) :
    Calls Tryz.prog 34 #[.pointer (some ⟨bb, 0, none⟩), .string q] w fun e w' => e = .returned (rdRes q M) ∧ Below w.heap.size w w' := by
  obtain ⟨W, hW⟩ : ∃ W, W = w.alloc (.cells #[.string ⟨#[]⟩, .int .i64 0, .int .i64 0, .int .i64 0, .string ⟨#[]⟩] 76) := ⟨_, rfl⟩
  have b0 : W.heap[w.heap.size]? = some (.cells #[.string ⟨#[]⟩, .int .i64 0, .int .i64 0, .int .i64 0, .string ⟨#[]⟩] 76 (0, 0)) := by rw [hW]; exact heap_alloc_new w _
  have hBW : Below w.heap.size w W := by rw [hW]; exact (Below.refl _ w).alloc (Nat.le_refl _) _
  have hsz : W.heap.size = w.heap.size + 1 := by rw [hW]; simp
  have HF := hide fun (X : World) (hX : X.heap[w.heap.size]? = W.heap[w.heap.size]?) => And.intro (five_cells (hX.trans b0)) (five_frozen (hX.trans b0))
  have hV := Valid_any W q hq
  have HL := hide hload
  clear hload
  cases hok : okPath q with
  | false =>
    rw [hok] at hV
    have HO := hide (show rdRes q M = .tuple #[ndV zNd, .int .i64 1] by unfold rdRes; rw [hok]; rfl)
    clear hok
    go_enter Tryz.func34, Tryz.ntmps34
    go_wp2_with fail
    rw [← hW]
    refine hV.mono ?_
    rintro e w1 ⟨rfl, o, rfl⟩
    obtain ⟨⟨r0, r1, r2, r3, r4⟩, s0, s1, s2, s3, s4⟩ := (unhide HF) (W.alloc o) (Below.heap_alloc _ _ _ (by omega))
    go_wp2_with fail
    refine bodyPost_ret (v := .tuple #[ndV zNd, .int .i64 1]) ?_ rfl ⟨by rw [unhide HO], ?_⟩
    · simp [results, Tryz.f34, go_sem, ndV, zNd]
    · exact ((Below.refl _ w).alloc (Nat.le_refl _) _).alloc (by simp) _
  | true =>
    rw [hok] at hV
    obtain ⟨r, hr⟩ : ∃ r, getM M q = r := ⟨_, rfl⟩
    have HO := hide (show rdRes q M = rdOf r by unfold rdRes; rw [hok, hr]; rfl)
    clear hok
    have HMG := hide fun (w2 : World) (B bm : Nat) (ev : Value) (h : MAt w2 B bm ev M) => (hr ▸ mget_any w2 B bm ev M q h ho hM)
    have HW := hide hW
    clear hr hW
    go_enter Tryz.func34, Tryz.ntmps34
    go_wp2_with fail
    rw [← unhide HW]
    refine hV.mono ?_
    rintro e w1 ⟨rfl, o, hw1⟩
    have hb1 : Below w.heap.size w w1 := by rw [hw1]; exact hBW.alloc (by omega) _
    have hz1 : w.heap.size < w1.heap.size := by rw [hw1]; simp; omega
    have hk1 : w1.heap[w.heap.size]? = W.heap[w.heap.size]? := by rw [hw1]; exact Below.heap_alloc _ _ _ (by omega)
    clear hw1
    go_wp2_with fail
    refine ((unhide HL) w1 hb1).mono ?_
    rintro e w2 ⟨bm, ev, rfl, hm2, hb2⟩
    have hz2 := hb2.size
    have hk2 := (hb2.block _ hz1).trans hk1
    go_wp2_with fail
    refine ((unhide HMG) w2 w1.heap.size bm ev hm2).mono ?_
    rintro e w3 ⟨rfl, hb3⟩
    have hz3 := hb3.size
    have hk3 := (hb3.block _ (by omega)).trans hk2
    have hb03 : Below w.heap.size w w3 := (hb1.trans (hb2.mono (by omega))).trans (hb3.mono (by omega))
    cases r with
    | none =>
      obtain ⟨⟨r0, r1, r2, r3, r4⟩, s0, s1, s2, s3, s4⟩ := (unhide HF) (w3.alloc (.cells #[.int .i64 0, .string ⟨#[]⟩, .int .i64 0, .int .i64 0, .int .i64 0, .string ⟨#[]⟩] 148)) ((Below.heap_alloc _ _ _ (by omega)).trans hk3)
      unfold optPl zPl
      go_wp2_with fail
      refine bodyPost_ret (v := .tuple #[ndV zNd, .int .i64 4]) ?_ rfl ⟨by rw [unhide HO]; rfl, ?_⟩
      · simp [results, Tryz.f34, go_sem, ndV, zNd, r0, r1, r2, r3, r4]
      · exact (((((hb03.alloc (by omega) _).setCell (p := ⟨w.heap.size, 0, none⟩) (Nat.le_refl _) _).setCell (p := ⟨w.heap.size, 1, none⟩) (Nat.le_refl _) _).setCell (p := ⟨w.heap.size, 2, none⟩) (Nat.le_refl _) _).setCell (p := ⟨w.heap.size, 3, none⟩) (Nat.le_refl _) _).setCell (p := ⟨w.heap.size, 4, none⟩) (Nat.le_refl _) _
    | some p =>
      obtain ⟨⟨r0, r1, r2, r3, r4⟩, s0, s1, s2, s3, s4⟩ := (unhide HF) (w3.alloc (.cells #[.int .i64 (p.slot : Int), .string p.node.path, .int .i64 p.node.kind, .int .i64 p.node.mode, .int .i64 p.node.tag, .string p.node.data] 148)) ((Below.heap_alloc _ _ _ (by omega)).trans hk3)
      unfold optPl plV
      go_wp2_with fail
      refine bodyPost_ret (v := .tuple #[ndV p.node, .int .i64 0]) ?_ rfl ⟨by rw [unhide HO]; rfl, ?_⟩
      · simp [results, Tryz.f34, go_sem, ndV, r0, r1, r2, r3, r4]
      · exact (((((hb03.alloc (by omega) _).setCell (p := ⟨w.heap.size, 0, none⟩) (Nat.le_refl _) _).setCell (p := ⟨w.heap.size, 1, none⟩) (Nat.le_refl _) _).setCell (p := ⟨w.heap.size, 2, none⟩) (Nat.le_refl _) _).setCell (p := ⟨w.heap.size, 3, none⟩) (Nat.le_refl _) _).setCell (p := ⟨w.heap.size, 4, none⟩) (Nat.le_refl _) _
end Go.Proofs.YtcbindgpbeaebaaGreatDoor

namespace Go.Proofs.YtcbindgpbeaebaaGreatDoor
open Go.RowKit Go.Deep Go.Shelf
attribute [local go_sem] Oper.semAt_some

def zNdV : Value := .agg #[.string ⟨#[]⟩, .int .i64 0, .int .i64 0, .int .i64 0, .string ⟨#[]⟩]
theorem info_Node : (Tryz.prog.info? 76).map (fun i => (i.zero, i.size, i.bytes)) = some (some zNdV, 5, 56) := by kernel_rfl
def rowN (xs : List Ps) : List Value := xs.flatMap fun x => ndC x.1.node
theorem rowN_snoc (pre : List Ps) (x : Ps) : rowN (pre ++ [x]) = rowN pre ++ ndC x.1.node := by simp [rowN]

set_option maxRecDepth 100000 in
set_option maxHeartbeats 6400000 in
theorem nodes_load (w : World) (bb : Nat) (M : List Pl) (hs : ∀ p ∈ M, p.slot < 60) (hm : M.length ≤ 60) (hload : Calls Tryz.prog 76 #[.pointer (some ⟨bb, 0, none⟩)] w (LoadPost w M)) :
    Calls Tryz.prog 39 #[.pointer (some ⟨bb, 0, none⟩)] w fun e w' => ∃ v xs, e = .returned (.tuple #[v, .int .i64 0]) ∧ xs.map (·.1) = M ∧ w'.ownsRow w.heap.size 76 5 v xs.length (rowN xs) ∧ Below w.heap.size w w' := by
  obtain ⟨xs, hxs⟩ : ∃ xs : List Ps, xs.map (·.1) = M := ⟨M.attach.map fun p => ⟨p.1, hs p.1 p.2⟩, by simp⟩
  obtain ⟨i0, hi0, hz0, hz1, hz2⟩ := info_parts info_Node
  have hlen : xs.length ≤ 60 := by rw [← hxs, List.length_map] at hm; exact hm
  obtain ⟨C, hC⟩ : ∃ C, C = madeCells zNdV.cells (M.length * 5) := ⟨_, rfl⟩
  have hCs : C.size = M.length * 5 := by rw [hC]; exact size_madeCells _ _
  have hmk : ∀ w : World, (Instr.makeSlice 28 (.int .i64 0) (.int .i64 (M.length : Int))).run Tryz.prog w = .ok (.slice (some ⟨w.heap.size, 0, none⟩) 0 M.length) (w.alloc (.cells C 76)) := fun w => by
    have hr := run_make (P := Tryz.prog) w 28 76 i0 zNdV Tryz.underlying28 hi0 hz0 .i64 .i64 0 (M.length : Int) (Int.le_refl _) (by omega) (by rw [hz2]; omega) (by omega)
    rw [hz1] at hr
    rw [hC]
    exact hr
  clear hC
  have hl := (callsIn_wide (n := 5)).2 hload
  clear hload
  refine (callsIn_wide (n := 6)).1 ?_
  refine callsIn_of_wp_marks Tryz.func39 rfl trivial ?_ rfl
  simp only [Tryz.ntmps39, List.size_toArray, List.length_cons, List.length_nil, Nat.reduceAdd, Nat.reduceSub, Array.replicate_succ, Array.replicate_zero, List.push_toArray, List.append_toArray, List.nil_append, List.cons_append]
  gi_wp2_with (refine ⟨trivial, ?_⟩; gi_at_call 76; refine hl.mono ?_; rintro e u ⟨bm, ev, rfl, hm1, hb1⟩)
  have hln := (callsIn_wide (n := 5)).2 (mlen_any u w.heap.size bm ev M hm1)
  gi_wp2_with (refine ⟨trivial, ?_⟩; gi_at_call 82; refine hln.mono ?_; rintro e w2 ⟨rfl, e2⟩; have e2 := e2.symm; subst e2)
  gi_wp2_with (refine ⟨trivial, ?_⟩; gi_at_call 83; refine (all_in 5 bm _).mono ?_; rintro e w' ⟨rfl, rfl⟩)
  clear hl hln hmk
  have hus := hb1.size
  obtain ⟨W0, hW0⟩ : ∃ W0, W0 = ((u.alloc (.cells C 76)).alloc (.cells #[.slice (some ⟨u.heap.size, 0, none⟩) 0 M.length] 28)).alloc (.cells #[.pointer (some ⟨bm, 0, none⟩)] 144) := ⟨_, rfl⟩
  have hB0 : Below u.heap.size u W0 := by rw [hW0]; exact (((Below.refl _ u).alloc (Nat.le_refl _) _).alloc (by simp) _).alloc (by simp; omega) _
  have hsz : W0.heap.size = u.heap.size + 3 := by rw [hW0]; simp
  have bO : Boxed W0 (u.heap.size + 1) 28 (.slice (some ⟨u.heap.size, 0, none⟩) 0 M.length) := by
    have := (Boxed.new (u.alloc (.cells C 76)) 28 (.slice (some ⟨u.heap.size, 0, none⟩) 0 M.length)).alloc (.cells #[.pointer (some ⟨bm, 0, none⟩)] 144)
    rw [World.size_alloc, ← hW0] at this
    exact this
  have hrow0 : W0.ownsRow u.heap.size 76 5 (.slice (some ⟨u.heap.size, 0, none⟩) 0 M.length) 0 [] := by
    rw [hW0]
    exact ((World.ownsRow_made u _ M.length (Nat.le_refl _) (by unfold maxLen; omega) hCs).alloc _).alloc _
  have hc0 : W0.cell? ⟨u.heap.size + 1 + 1, 0, none⟩ = some (.pointer (some ⟨bm, 0, none⟩)) := by
    have := Boxed.new ((u.alloc (.cells C 76)).alloc (.cells #[.slice (some ⟨u.heap.size, 0, none⟩) 0 M.length] 28)) 144 (.pointer (some ⟨bm, 0, none⟩))
    rw [World.size_alloc, World.size_alloc, ← hW0] at this
    exact this.cell
  rw [← hW0]
  clear hW0 hCs
  have hml : M.length ≤ 1000 := by omega
  refine wpIn_rangeFunc_ownH rfl (by omega) (gf := 122) (lb := #[.pointer (some ⟨u.heap.size + 1 + 1, 0, none⟩)]) rfl trivial (enters_of Tryz.func122 (by kernel_rfl) rfl)
    (all_stops 5 (by omega) (u.heap.size + 1 + 1) bm w.heap.size u.heap.size ev M xs hxs hml W0 (by omega) (by omega) hc0 (hm1.below hB0) hm1.lt (fun g hg => (hm1.row.lt g hg).2)) belowK_t (belowK_b (by omega)) (Below.refl _ _) (fun _ => rfl)
    (fun pre W => (∃ v, Boxed W (u.heap.size + 1) 28 v ∧ W.ownsRow u.heap.size 76 5 v pre.length (rowN pre) ∧ True) ∧ Below u.heap.size u W)
    (fun _ _ _ => False)
    (OwnFrom.and (Own.from (holdsRow_own u.heap.size (u.heap.size + 1) 28 76 5 (fun pre => pre.length) (fun pre => rowN pre) (fun _ _ => True)) _) (ownFrom_below (Nat.le_refl _) (by omega)))
    (fun _ _ _ _ _ hs _ _ => hs)
    ⟨⟨_, bO, hrow0, trivial⟩, hB0⟩
    (fun x a' W => ∃ Bx, u.heap.size < Bx ∧ W.heap[Bx]? = some (.cells (plC x.1).toArray 148 (0, 0)) ∧ a' = { tmps := #[.pointer (some ⟨bb, 0, none⟩), undef, .slice none 0 0, .int .i64 0, .pointer (some ⟨bm, 0, none⟩), .int .i64 0, .pointer (some ⟨u.heap.size + 1, 0, none⟩), .pointer (some ⟨Bx, 0, none⟩), .tuple #[.pointer (some ⟨bm, 0, none⟩), .int .i64 0], .pointer (some ⟨bb, 0, none⟩), .tuple #[.pointer (some ⟨bm, 0, none⟩), .int .i64 0], .pointer (some ⟨bm, 0, none⟩), .int .i64 0, .int .i64 0, .bool false, undef, .pointer (some ⟨bm, 0, none⟩), .int .i64 (M.length : Int), .slice (some ⟨u.heap.size, 0, none⟩) 0 M.length, .pointer (some ⟨bm, 0, none⟩), .func (.func 122) #[] #[.pointer (some ⟨u.heap.size + 1 + 1, 0, none⟩)], .agg #[.int .i64 (x.1.slot : Int), .string x.1.node.path, .int .i64 x.1.node.kind, .int .i64 x.1.node.mode, .int .i64 x.1.node.tag, .string x.1.node.data], undef, undef, undef, undef, undef, undef], defers := [] })
    (fun x a' _ X Y row hs hg hr => by
      obtain ⟨Bx, h1, h2, h3⟩ := hs
      refine ⟨Bx, h1, (hg.block Bx (lt_of_heap h2) fun e => ?_).trans h2, h3⟩
      obtain ⟨_, o, ho, hcc⟩ := hr Bx e.symm
      rw [h2] at ho
      cases ho
      cases hcc)
    ?assign ?body ?done ?stop
  case assign =>
    rintro l pre x W K ⟨⟨v, hv, hrow, _⟩, hB1⟩ hK
    dsimp only [encP]
    gi_wp2
    exact hK _ _ ((KeepsOthers.alloc _ _).from _) ((Below.refl _ W).alloc hB1.size _) ⟨⟨v, hv.alloc _, hrow.alloc _, trivial⟩, hB1.alloc hB1.size _⟩ ⟨W.heap.size, by have := hv.lt; omega, heap_alloc_new W _, rfl⟩
  case body =>
    rintro l pre x a' W hl ⟨r, hr⟩ ⟨⟨v, hv, hrow, _⟩, hB1⟩ ⟨Bx, hBx, bX, rfl⟩ hlt
    have cX := fun j => cell_of_row W Bx j _ _ _ bX
    have x0 := cX 0
    have x1 := cX 1
    have x2 := cX 2
    have x3 := cX 3
    have x4 := cX 4
    have x5 := cX 5
    simp [plC] at x0 x1 x2 x3 x4 x5
    clear cX
    have hcv := hv.cell
    have hsW := hB1.size
    have k1 : ∀ u ∈ ndC x.1.node, u.oneCell' = true := by simp [ndC, Value.oneCell']
    have k2 : pre.length + 1 ≤ maxLen := by unfold maxLen; omega
    have k3 : (pre.length + 1) * 56 ≤ 140737488355328 := by omega
    have k4 : ∀ o, u.heap.size ≤ (W.alloc o).heap.size := fun o => by rw [World.size_alloc]; omega
    have k5 : ∀ j y, (ndC x.1.node)[j]? = some y → (W.alloc (.cells #[.string x.1.node.path, .int .i64 x.1.node.kind, .int .i64 x.1.node.mode, .int .i64 x.1.node.tag, .string x.1.node.data] 76)).cell? ((⟨W.heap.size, 0, none⟩ : Addr).add j) = some y := fun j y hj =>
      cells_at (L := ndC x.1.node) (t := 76) (heap_alloc_new W (.cells (ndC x.1.node).toArray 76)) 0 j y (by simpa using hj)
    gi_wp2_with (gi_at_builtin; refine wpListIn_append_own _ rfl _ _ 28 rfl u.heap.size 76 i0 zNdV 5 56 Tryz.underlying28 hi0 hz0 hz1 hz2 rfl (by decide) _ _ _ rfl (hrow.alloc _) ⟨W.heap.size, 0, none⟩ 1 1 (ndC x.1.node) rfl rfl k5 k1 k2 k3 (k4 _) ?_; intro v' w1 hown' hgrow _; obtain ⟨g', cap', rfl⟩ := ownsRow_succ hown'; obtain ⟨hv1, hv2, hr2, hk2, hb2⟩ := hv.appended (by decide) hrow hB1.size (by omega) hown' hgrow; have hc1 := hv1.cell; have hf1 := hv1.frozen)
    refine ⟨hk2.from _, hb2, ⟨_, hv2, ?_, trivial⟩, hB1.trans hb2⟩
    rw [rowN_snoc, List.length_append]
    exact hr2
  case done =>
    rintro D zs W hD hzs ⟨⟨v, hv, hrow, _⟩, hB1⟩ hK
    rw [hzs] at hrow
    have hcv := hv.cell
    gi_wp2
    refine ⟨by simp, .inl ⟨_, _, rfl, run_takeDeferred hK, ?_⟩⟩
    refine ⟨.tuple #[v, .int .i64 0], by simp [results, Tryz.f39, go_sem], v, xs, rfl, hxs, ownsRow_putObj (ownsRow_base hrow hus) _ hK rfl, hb1.trans ((hB1.trans (belowK_b (w := u) (Nat.le_refl _) W D _ _ (by omega) hK rfl rfl)).mono hus)⟩
  case stop =>
    rintro D c pre W _ _ hf _
    exact hf.elim
end Go.Proofs.YtcbindgpbeaebaaGreatDoor

namespace Go.Proofs.YtcbindgpbeaebaaGreatDoor
open Go.RowKit Go.Deep
attribute [local go_sem ↓] Go.wp_at_zero Go.wp_at_succ

def OpenPost (w : World) (B bd bs : Nat) (lv : Value) (r : Bool × Dk) (e : Ending) (w' : World) : Prop :=
  ∃ lv', DStep bd bs lv lv' w w' ∧ Below B w w' ∧
    ((∃ bb, r.1 = true ∧ r.2.life ≠ 0 ∧ w.heap.size ≤ bb ∧ e = .returned (.tuple #[.pointer (some ⟨bb, 0, none⟩), .int .i64 0]) ∧ BAt w' bb w.heap.size false ∧ Sys w' B w.heap.size bd bs (.slice none 0 0) lv' [] false r.2) ∨
     ((r.1 = false ∨ r.2.life = 0) ∧ e = .returned (.tuple #[.pointer none, .int .i64 9]) ∧ DAt w' bd bs lv' r.2))

set_option maxRecDepth 100000 in
set_option maxHeartbeats 6400000 in
theorem bopen_any (w : World) (B bd bs : Nat) (lv : Value) (d : Dk) (ps : List (Nat × ByteArray)) (h : DAt w bd bs lv d) (hB : B ≤ w.heap.size) (hBd : B ≤ bd) (hBs : B ≤ bs) (hBv : ∀ g, lv.ownBlock = some g → B ≤ g) (ok : d.Ok) (hs : 300 ≤ d.safe.length) (hll : d.late.length ≤ 1000000)
    (ht : d.flush.1 = true → Tells (d.flush.2.read 0) ps) (hl : ps.length ≤ 80) (hb4 : ∀ p ∈ ps, 90 + p.1 < d.safe.length) (hz : ∀ p ∈ inRoom d.flush.2 0 ps, p.2.size ≤ 256) :
    Calls Tryz.prog 32 #[.pointer (some ⟨bd, 0, none⟩)] w (OpenPost w B bd bs lv (d.redo ps)) := by
  have hbl := dblocks_any w bd bs lv d h
  have hop := open_any w B bd bs lv d ps h hB hBd hBs hBv ok (by omega) hll ht hl hb4 hz
  generalize d.redo ps = r at hop ⊢
  obtain ⟨r1, d'⟩ := r
  dsimp only at hop
  have h300 : ¬ ((d.safe.length : Int) < 300) := by omega
  have HOP := hide hop
  clear hop ht hz hb4
  go_enter Tryz.func32, Tryz.ntmps32
  go_wp2_with fail
  refine hbl.mono ?_
  rintro e w1 ⟨rfl, e1⟩
  have e1 := e1.symm
  subst e1
  go_wp2_with fail
  refine (unhide HOP).mono ?_
  rintro e w2 ⟨lv', st, hb, ha, hc⟩
  cases r1 with
  | false =>
    obtain ⟨rfl, hd, _⟩ := hc rfl
    go_wp2_with fail
    go_ret2
    exact ⟨lv', st, hb, .inr ⟨.inl rfl, rfl, hd⟩⟩
  | true =>
    obtain ⟨rfl, hS⟩ := ha rfl
    have hdd := dead_any w2 bd bs lv' d' hS.disk
    clear ha hc
    go_wp2_with fail
    refine hdd.mono ?_
    rintro e w3 ⟨rfl, e3⟩
    have e3 := e3.symm
    subst e3
    by_cases hl0 : d'.life = 0
    · have hl1 : (d'.life == 0) = true := by simpa using hl0
      rw [hl1]
      go_wp2_with fail
      go_ret2
      exact ⟨lv', st, hb, .inr ⟨.inr hl0, rfl, hS.disk⟩⟩
    · have hl1 : (d'.life == 0) = false := by simpa using hl0
      rw [hl1]
      go_wp2_with fail
      go_ret2
      obtain ⟨W, hW⟩ : ∃ W, W = w2.alloc (.cells #[.pointer (some ⟨w.heap.size, 0, none⟩), .bool false] 143) := ⟨_, rfl⟩
      have hbW : Below w2.heap.size w2 W := by rw [hW]; exact (Below.refl _ w2).alloc (Nat.le_refl _) _
      refine ⟨lv', ?_, ?_, .inl ⟨w2.heap.size, rfl, hl0, st.size, rfl, ⟨heap_alloc_new w2 _⟩, ?_⟩⟩
      · rw [← hW]; exact st.trans (DStep.ofBelow hbW)
      · rw [← hW]; exact hb.trans (hbW.mono (Nat.le_trans hB st.size))
      · rw [← hW]; exact sys_kept hS hbW.size fun k hk _ => hbW.block k hk
end Go.Proofs.YtcbindgpbeaebaaGreatDoor
