import Derived.Test.YtcbindgpbeaebaaDoorPureU
namespace Go.Proofs.YtcbindgpbeaebaaDoor
open Go.RowKit Go.Deep
attribute [local go_sem ↓] Go.wp_at_zero Go.wp_at_succ

theorem splitB_total (sep : ByteArray) (hs : sep.size = 1) : ∀ (k : Nat) (s : ByteArray), s.size + 1 ≤ ((Lib.splitB sep 0 k s).map fun x => x.size + 1).sum
  | 0, s => by simp [Lib.splitB]
  | k + 1, s => by
    unfold Lib.splitB
    split
    · simp
    · have ih := splitB_total sep hs k (s.extract ((Lib.indexB s sep).toNat + sep.size) s.size)
      rw [ByteArray.size_extract] at ih
      rw [List.map_cons, List.sum_cons, ByteArray.size_extract]
      omega
theorem sum_le : ∀ (l : List ByteArray) (c : Nat), (∀ x ∈ l, x.size ≤ c) → (l.map fun x => x.size + 1).sum ≤ l.length * (c + 1)
  | [], _, _ => by simp
  | x :: r, c, h => by
    have ih := sum_le r c fun y hy => h y (by simp [hy])
    have := h x (by simp)
    rw [List.map_cons, List.sum_cons, List.length_cons, Nat.add_mul]
    omega
theorem okPath_size {s : ByteArray} (h : okPath s = true) : s.size ≤ 60 := by
  simp only [okPath, Bool.and_eq_true, decide_eq_true_eq] at h
  have h1 : s.size + 1 ≤ ((cut5 s).map fun x => x.size + 1).sum := splitB_total ⟨#[47]⟩ rfl _ s
  have h2 := sum_le (cut5 s) 8 fun x hx => by
    have := List.all_eq_true.1 h.2 x hx
    simp only [okStep, Bool.and_eq_true, decide_eq_true_eq] at this
    exact this.1.1.1.2
  have := h.1
  omega
theorem okDeed_fit {x : Dd} (h : okDeed x = true) : Fit x := by
  unfold okDeed at h
  rw [Bool.and_eq_true] at h
  obtain ⟨h1, h2⟩ := h
  have hn : x.take = false → okNode x.node = true := fun e => by rw [e] at h2; simpa using h2
  refine ⟨okPath_size h1, fun e => ?_, fun e => ?_, fun e => ?_, fun e => ?_⟩ <;>
    · have hk := hn e
      simp only [okNode, Bool.and_eq_true, decide_eq_true_eq] at hk
      obtain ⟨⟨⟨⟨⟨_, a⟩, b⟩, c⟩, d⟩, f⟩ := hk
      split at f
      · next g =>
        have : x.node.data.size ≤ 400 := by simpa using f
        omega
      · split at f
        · next g =>
          have : x.node.data.size = 0 := by simpa using f
          omega
        · cases f
theorem okDeeds_all {L : List Dd} (h : okDeeds L = true) : L.length ≤ 12 ∧ ∀ x ∈ L, okDeed x = true := by
  simp only [okDeeds, Bool.and_eq_true, decide_eq_true_eq] at h
  exact ⟨h.1, fun x hx => List.all_eq_true.1 h.2 x hx⟩

/-- What a call on a base may turn. -/
structure BStep (bb bl bd bs : Nat) (lv lv' : Value) (w w' : World) : Prop where
  size : w.heap.size ≤ w'.heap.size
  block : ∀ k, k < w.heap.size → k ≠ bb → k ≠ bl → k ≠ bd → k ≠ bs → lv.ownBlock ≠ some k → w'.heap[k]? = w.heap[k]?
  fresh : ∀ g, lv'.ownBlock = some g → lv.ownBlock = some g ∨ w.heap.size ≤ g
/-- How a Do ends. -/
def DoEnd (M : List Pl) (L : List Dd) (d : Dk) (c : Int) (br' : Bool) (d' : Dk) : Prop :=
  (okDeeds L = false ∧ c = 1 ∧ br' = false ∧ d' = d) ∨
  (okDeeds L = true ∧ br' = false ∧ d' = d ∧ c ≠ 0 ∧ ∃ k x M1 ps1 M2 ps2, Chain M [] (L.take k) M1 ps1 ∧ L[k]? = some x ∧ D1 M1 ps1 x c M2 ps2) ∨
  (okDeeds L = true ∧ ∃ M1 ps1, Chain M [] L M1 ps1 ∧ c = (commitL d ps1 false).1 ∧ br' = (commitL d ps1 false).2.2 ∧ d' = (commitL d ps1 false).2.1)
def BDo (w : World) (B bb bl bd bs : Nat) (lv : Value) (d : Dk) (M : List Pl) (L : List Dd) (e : Ending) (w' : World) : Prop :=
  ∃ c lv' br' d', e = .returned (.int .i64 c) ∧ BAt w' bb bl (c == 9) ∧ Sys w' B bl bd bs (.slice none 0 0) lv' [] br' d' ∧ Below B w w' ∧ BStep bb bl bd bs lv lv' w w' ∧ DoEnd M L d c br' d'

theorem BAt.set {w : World} {bb bl : Nat} {bk : Bool} (h : BAt w bb bl bk) (b : Bool) : BAt (w.setCell ⟨bb, 1, none⟩ (.bool b)) bb bl b := by
  refine ⟨?_⟩
  rw [heap_setCell_same w bb 1 _ _ _ h.own]
  rfl
theorem Sys.setB {w : World} {B bb bl bd bs : Nat} {pv lv : Value} {ps : List (Nat × ByteArray)} {br bk : Bool} {d : Dk} (s : Sys w B bl bd bs pv lv ps br d) (h : BAt w bb bl bk) (v : Value) : Sys (w.setCell ⟨bb, 1, none⟩ v) B bl bd bs pv lv ps br d := by
  obtain ⟨cur, hbs, _⟩ := s.disk.sb
  have go : ∀ (k : Nat) (cs : Array Value) (t : TypeId), w.heap[k]? = some (.cells cs t (0, 0)) → t ≠ 80 → (w.setCell ⟨bb, 1, none⟩ v).heap[k]? = w.heap[k]? := fun k cs t hc h1 =>
    Below.heap_setCell _ _ _ _ (ty_ne hc h.own h1)
  refine ⟨s.log.kept fun k hk' e => ?_, s.disk.kept fun k hk' e => ?_, s.sep, by simpa [World.setCell] using s.base⟩
  · rcases e with rfl | e
    · exact go _ _ _ s.log.own (by decide)
    · obtain ⟨c, hc⟩ := row_blk s.log.puts e
      exact go _ _ _ hc (by decide)
  · rcases e with rfl | rfl | e
    · exact go _ _ _ s.disk.own (by decide)
    · exact go _ _ _ hbs (by decide)
    · obtain ⟨c, hc⟩ := row_blk s.disk.late e
      exact go _ _ _ hc (by decide)
theorem bstep_set {w w1 w2 : World} {B bb bl bd bs : Nat} {lv lv' : Value} (h1 : Below w.heap.size w w1) (hs : SStep bl bd bs (.slice none 0 0) lv lv' w1 w2) (hw : B ≤ w.heap.size) (hb : Below B w1 w2) (hB : B ≤ bb) (v : Value) : BStep bb bl bd bs lv lv' w (w2.setCell ⟨bb, 1, none⟩ v) ∧ Below B w (w2.setCell ⟨bb, 1, none⟩ v) := by
  have hz := h1.size
  have hz2 := hs.size
  refine ⟨⟨by simp [World.setCell]; omega, fun k hk h0 g1 g2 g3 g4 => ?_, fun g hg => ?_⟩, ((h1.mono hw).trans hb).setCell (p := ⟨bb, 1, none⟩) hB v⟩
  · rw [Below.heap_setCell _ _ _ _ fun e => h0 e, hs.block k (by omega) g1 g2 g3 (by simp [Value.ownBlock]) g4, h1.block k hk]
  · rcases hs.fresh g hg with e | e
    · exact .inl e
    · exact .inr (by omega)
theorem BAt.keepS {w w' : World} {B bb bl bd bs : Nat} {lv lv' : Value} {br bk : Bool} {d : Dk} (h : BAt w bb bl bk) (s : Sys w B bl bd bs (.slice none 0 0) lv [] br d) (st : SStep bl bd bs (.slice none 0 0) lv lv' w w') : BAt w' bb bl bk := by
  obtain ⟨cur, hbs, _⟩ := s.disk.sb
  exact h.kept (st.block bb h.lt (ty_ne h.own s.log.own (by decide)) (ty_ne h.own s.disk.own (by decide)) (ty_ne h.own hbs (by decide)) (by simp [Value.ownBlock]) (row_ty s.disk.late h.own (by decide)))

set_option maxRecDepth 100000 in
set_option maxHeartbeats 6400000 in
theorem do_any (w : World) (B bb bl bd bs : Nat) (lv : Value) (d : Dk) (v : Value) (L : List Dd) (hB : BAt w bb bl false) (hBb : B ≤ bb) (s : Sys w B bl bd bs (.slice none 0 0) lv [] false d) (ok : d.Ok) (hn3 : 300 ≤ d.safe.length) (hl : d.late = []) (hf : d.life ≠ 0) (hz : ∀ i, i < 120 → (vw d i).size = 256)
    (hD : DsAt w v L) (hpz : ∀ x ∈ L, x.node.path.size ≤ 4611686018427387904) (hL : L.length ≤ 4611686018427387904) :
    Calls Tryd.prog 14 #[.pointer (some ⟨bb, 0, none⟩), v] w (BDo w B bb bl bd bs lv d (loadM (vw d) 60) L) := by
  have hare := areDeeds_any w v L hD hpz hL
  have hw0 := s.base
  obtain ⟨ao, cap, hv⟩ := hD.form
  cases hok : okDeeds L with
  | false =>
    rw [hok] at hare
    subst hv
    go_enter Tryd.func14, Tryd.ntmps14
    go_wp2_with fail
    refine hare.mono ?_
    rintro e w1 ⟨rfl, hb1⟩
    go_wp2_with fail
    go_ret
    exact ⟨1, lv, false, d, rfl, hB.kept (hb1.block bb hB.lt), sys_kept s hb1.size (fun k hk _ => hb1.block k hk), hb1.mono hw0, ⟨hb1.size, fun k hk _ _ _ _ _ => hb1.block k hk, fun g hg => .inl hg⟩, .inl ⟨hok, rfl, rfl, rfl⟩⟩
  | true =>
    obtain ⟨h12, hall⟩ := okDeeds_all hok
    rw [hok] at hare
    have HTR := hide fun (w1 : World) (hb1 : Below w.heap.size w w1) => transact_ok w1 B bb bl bd bs (.slice none 0 0) lv d v L (hB.kept (hb1.block bb hB.lt)) (sys_kept s hb1.size (fun k hk _ => hb1.block k hk)) ok hn3 hl hf hz (hD.below hb1) h12 fun x hx => okDeed_fit (hall x hx)
    have HOK := hide hok
    clear hok
    subst hv
    go_enter Tryd.func14, Tryd.ntmps14
    go_wp2_with fail
    refine hare.mono ?_
    rintro e w1 ⟨rfl, hb1⟩
    go_wp2_with fail
    refine ((unhide HTR) w1 hb1).mono ?_
    have s1 : Sys w1 B bl bd bs (.slice none 0 0) lv [] false d := sys_kept s hb1.size (fun k hk _ => hb1.block k hk)
    have hB1 := hB.kept (hb1.block bb hB.lt)
    rintro e w2 (⟨k, x, c, M1, ps1, M2, ps2, g1, g2, g3, g4, rfl, s2, st2, b2⟩ | ⟨M1, ps1, lv', g1, rfl, s2, st2, b2⟩)
    · have hB2 := hB1.keepS s1 st2
      have c1 := hB2.c1
      have f1 := hB2.fz 1
      go_wp2_with fail
      go_ret
      obtain ⟨q1, q2⟩ := bstep_set hb1 st2 hw0 b2 hBb (.bool (c == 9))
      exact ⟨c, lv, false, d, rfl, hB2.set _, s2.setB hB2 _, q2, q1, .inr (.inl ⟨unhide HOK, rfl, rfl, g4, k, x, M1, ps1, M2, ps2, g1, g2, g3⟩)⟩
    · have hB2 := hB1.keepS s1 st2
      have c1 := hB2.c1
      have f1 := hB2.fz 1
      generalize hc : commitL d ps1 false = r at s2 ⊢
      obtain ⟨c, d', br'⟩ := r
      dsimp only at s2 ⊢
      go_wp2_with fail
      go_ret
      obtain ⟨q1, q2⟩ := bstep_set hb1 st2 hw0 b2 hBb (.bool (c == 9))
      exact ⟨c, lv', br', d', rfl, hB2.set _, s2.setB hB2 _, q2, q1, .inr (.inr ⟨unhide HOK, M1, ps1, g1, by rw [hc], by rw [hc], by rw [hc]⟩)⟩
end Go.Proofs.YtcbindgpbeaebaaDoor
