import Derived.Test.YtcbindgpbeaebaaDoorPureX
namespace Go.Proofs.YtcbindgpbeaebaaDoor
open Go.RowKit Go.Deep

/-- The base of the law, in memory. -/
def GAt (w : World) (bb bl bd bs : Nat) (cf : Nat → Nat) (j : Nat) (wr : World) : Prop :=
  ∃ lv d M, BAt wr bb bl false ∧ Sys wr w.heap.size bl bd bs (.slice none 0 0) lv [] false d ∧ Hd d M ∧ Gr cf j M ∧ Below w.heap.size w wr
theorem GAt.below {w wr w' : World} {bb bl bd bs : Nat} {cf : Nat → Nat} {j : Nat} (h : GAt w bb bl bd bs cf j wr) (hb : Below wr.heap.size wr w') : GAt w bb bl bd bs cf j w' := by
  obtain ⟨lv, d, M, h1, h2, h3, h4, h5⟩ := h
  exact ⟨lv, d, M, h1.kept (hb.block bb h1.lt), sys_kept h2 hb.size (fun k hk _ => hb.block k hk), h3, h4, h5.trans (hb.mono h5.size)⟩
theorem GAt.low {w wr : World} {bb bl bd bs : Nat} {cf : Nat → Nat} {j : Nat} (h : GAt w bb bl bd bs cf j wr) : Below w.heap.size w wr := by
  obtain ⟨lv, d, M, h1, h2, h3, h4, h5⟩ := h
  exact h5
theorem DsAt.one {w : World} {b cap : Nat} {x : Dd} (h : w.heap[b]? = some (.cells (ddC x).toArray 47 (0, 0))) : DsAt w (.slice (some ⟨b, 0, none⟩) 1 cap) [x] := by
  refine ⟨some ⟨b, 0, none⟩, cap, rfl, fun _ => ⟨b, _, rfl, h, fun i y hi j v hj => ?_⟩⟩
  match i, hi with
  | 0, hi =>
    rw [← Option.some.inj hi] at hj
    simpa using hj
theorem DsAt.two {w : World} {b cap : Nat} {x y : Dd} (h : w.heap[b]? = some (.cells (ddC x ++ ddC y).toArray 47 (0, 0))) : DsAt w (.slice (some ⟨b, 0, none⟩) 2 cap) [x, y] := by
  refine ⟨some ⟨b, 0, none⟩, cap, rfl, fun _ => ⟨b, _, rfl, h, fun i z hi j v hj => ?_⟩⟩
  have hj6 : j < 6 := by
    have := (List.getElem?_eq_some_iff.1 hj).1
    exact this
  match i, hi with
  | 0, hi =>
    rw [← Option.some.inj hi] at hj
    rw [List.getElem?_toArray, List.getElem?_append_left (by show 0 * 6 + j < 6; omega)]
    simpa using hj
  | 1, hi =>
    rw [← Option.some.inj hi] at hj
    rw [List.getElem?_toArray, List.getElem?_append_right (by show 6 ≤ 1 * 6 + j; omega)]
    rw [show 1 * 6 + j - (ddC x).length = j by show 1 * 6 + j - 6 = j; omega]
    exact hj
theorem do_law (w W : World) (bb bl bd bs : Nat) (hbb : w.heap.size ≤ bb) (cf : Nat → Nat) (j : Nat) (v : Value) (L : List Dd) (h : GAt w bb bl bd bs cf j W) (hD : DsAt W v L) (hok : okDeeds L = true) (P : Int → (Nat → Nat) → Nat → Prop)
    (hP : ∀ d M c br' d', Hd d M → Gr cf j M → DoEnd M L d c br' d' → c ≠ 9 ∧ br' = false ∧ ∃ M', Hd d' M' ∧ ∀ cf' j', P c cf' j' → Gr cf' j' M') :
    Calls Tryd.prog 14 #[.pointer (some ⟨bb, 0, none⟩), v] W fun e w' => ∃ c, e = .returned (.int .i64 c) ∧ (∃ d M br' d', Hd d M ∧ Gr cf j M ∧ DoEnd M L d c br' d') ∧ ∀ cf' j', P c cf' j' → GAt w bb bl bd bs cf' j' w' := by
  obtain ⟨lv, d, M, h1, h2, h3, h4, h5⟩ := h
  obtain ⟨h12, hall⟩ := okDeeds_all hok
  refine (do_any W w.heap.size bb bl bd bs lv d v L h1 hbb h2 h3.ok h3.n3 h3.late h3.life h3.sz hD (fun x hx => by have := (okDeed_fit (hall x hx)).pz; omega) (by omega)).mono ?_
  rintro e w' ⟨c, lv', br', d', rfl, b1, s1, bel, _, hend⟩
  rw [h3.load] at hend
  obtain ⟨c9, rfl, M', k1, k2⟩ := hP d M c br' d' h3 h4 hend
  refine ⟨c, rfl, ⟨d, M, false, d', h3, h4, hend⟩, fun cf' j' hp => ⟨lv', d', M', ?_, s1, k1, k2 cf' j' hp, h5.trans bel⟩⟩
  rw [show (c == 9) = false by simpa using c9] at b1
  exact b1
theorem put_law (w W : World) (bb bl bd bs : Nat) (hbb : w.heap.size ≤ bb) (cf : Nat → Nat) (j : Nat) (hj : j < 59) (b cap : Nat) (h : GAt w bb bl bd bs cf j W) (hD : W.heap[b]? = some (.cells (ddC ⟨false, fullN j (cf j)⟩).toArray 47 (0, 0))) :
    Calls Tryd.prog 14 #[.pointer (some ⟨bb, 0, none⟩), .slice (some ⟨b, 0, none⟩) 1 cap] W fun e w' => e = .returned (.int .i64 0) ∧ GAt w bb bl bd bs cf (j + 1) w' := by
  refine (do_law w W bb bl bd bs hbb cf j _ _ h (DsAt.one hD) (fullDeed_ok hj _) (fun c cf' j' => cf' = cf ∧ j' = j + 1) fun d M c br' d' a1 a2 a3 => ?_).mono ?_
  · obtain ⟨rfl, q, M', q1, q2⟩ := gr_put a1 a2 hj a3
    exact ⟨by decide, q, M', q1, by rintro cf' j' ⟨rfl, rfl⟩; exact q2⟩
  · rintro e w' ⟨c, rfl, ⟨d, M, br', d', a1, a2, a3⟩, k⟩
    obtain ⟨rfl, _⟩ := gr_put a1 a2 hj a3
    exact ⟨rfl, k _ _ ⟨rfl, rfl⟩⟩
theorem more_law (w W : World) (bb bl bd bs : Nat) (hbb : w.heap.size ≤ bb) (cf : Nat → Nat) (b cap : Nat) (h : GAt w bb bl bd bs cf 59 W) (hD : W.heap[b]? = some (.cells (ddC ⟨false, moreN⟩).toArray 47 (0, 0))) :
    Calls Tryd.prog 14 #[.pointer (some ⟨bb, 0, none⟩), .slice (some ⟨b, 0, none⟩) 1 cap] W fun e w' => e = .returned (.int .i64 8) ∧ GAt w bb bl bd bs cf 59 w' := by
  refine (do_law w W bb bl bd bs hbb cf 59 _ _ h (DsAt.one hD) more_ok (fun c cf' j' => cf' = cf ∧ j' = 59) fun d M c br' d' a1 a2 a3 => ?_).mono ?_
  · obtain ⟨rfl, q, q1⟩ := gr_more a1 a2 a3
    subst q1
    exact ⟨by decide, q, M, a1, by rintro cf' j' ⟨rfl, rfl⟩; exact a2⟩
  · rintro e w' ⟨c, rfl, ⟨d, M, br', d', a1, a2, a3⟩, k⟩
    obtain ⟨rfl, _⟩ := gr_more a1 a2 a3
    exact ⟨rfl, k _ _ ⟨rfl, rfl⟩⟩
theorem gone_law (w W : World) (bb bl bd bs : Nat) (hbb : w.heap.size ≤ bb) (cf : Nat → Nat) (b cap : Nat) (h : GAt w bb bl bd bs cf 59 W) (hD : W.heap[b]? = some (.cells (ddC ⟨true, goneN⟩ ++ ddC ⟨false, dirN 0⟩).toArray 47 (0, 0))) :
    Calls Tryd.prog 14 #[.pointer (some ⟨bb, 0, none⟩), .slice (some ⟨b, 0, none⟩) 2 cap] W fun e w' => e = .returned (.int .i64 0) ∧ ∀ cf', GAt w bb bl bd bs cf' 0 w' := by
  refine (do_law w W bb bl bd bs hbb cf 59 _ _ h (DsAt.two hD) gone_ok (fun c _ j' => j' = 0) fun d M c br' d' a1 a2 a3 => ?_).mono ?_
  · obtain ⟨rfl, q, M', q1, q2⟩ := gr_gone a1 a2 (Nat.le_refl _) a3
    exact ⟨by decide, q, M', q1, by rintro cf' j' rfl; exact q2 cf'⟩
  · rintro e w' ⟨c, rfl, ⟨d, M, br', d', a1, a2, a3⟩, k⟩
    obtain ⟨rfl, _⟩ := gr_gone a1 a2 (Nat.le_refl _) a3
    exact ⟨rfl, fun cf' => k cf' 0 rfl⟩
/-- The first deed, on a new disk. -/
theorem dir_law (w W : World) (bb bl bd bs : Nat) (hbb : w.heap.size ≤ bb) (lv : Value) (h1 : BAt W bb bl false) (h2 : Sys W w.heap.size bl bd bs (.slice none 0 0) lv [] false (newDk 300)) (h5 : Below w.heap.size w W) (b cap : Nat) (hD : W.heap[b]? = some (.cells (ddC ⟨false, dirN 1⟩).toArray 47 (0, 0))) :
    Calls Tryd.prog 14 #[.pointer (some ⟨bb, 0, none⟩), .slice (some ⟨b, 0, none⟩) 1 cap] W fun e w' => e = .returned (.int .i64 0) ∧ ∀ cf, GAt w bb bl bd bs cf 0 w' := by
  have h3 := new_hd
  obtain ⟨h12, hall⟩ := okDeeds_all dir_ok
  refine (do_any W w.heap.size bb bl bd bs lv (newDk 300) _ _ h1 hbb h2 h3.ok h3.n3 h3.late h3.life h3.sz (DsAt.one hD) (fun x hx => by have := (okDeed_fit (hall x hx)).pz; omega) (by omega)).mono ?_
  rintro e w' ⟨c, lv', br', d', rfl, b1, s1, bel, _, hend⟩
  rw [h3.load] at hend
  have key := fun cf => gr_dir h3 hend cf
  obtain ⟨rfl, rfl, _⟩ := key fun _ => 0
  refine ⟨rfl, fun cf => ?_⟩
  obtain ⟨_, _, M', k1, k2⟩ := key cf
  exact ⟨lv', d', M', b1, s1, k1, k2, h5.trans bel⟩
theorem GAt.load {w W : World} {bb bl bd bs : Nat} {cf : Nat → Nat} {j : Nat} (h : GAt w bb bl bd bs cf j W) : ∃ M, Ord M ∧ (∀ p ∈ M, p.slot < 60) ∧ M.length ≤ 60 ∧ Gr cf j M ∧ ∀ w1, Below W.heap.size W w1 → Calls Tryd.prog 35 #[.pointer (some ⟨bb, 0, none⟩)] w1 (LoadPost w1 M) := by
  obtain ⟨lv, d, M, h1, h2, h3, h4, h5⟩ := h
  refine ⟨M, h3.mo.ord, h3.mo.slot, h3.mo.len, h4, fun w1 hb => ?_⟩
  have s1 := sys_kept h2 hb.size (fun k hk _ => hb.block k hk)
  have := load_ok w1 bb bl bd bs _ lv [] false d (vw d) (h1.kept (hb.block bb h1.lt)) s1.log s1.disk h3.ok.n (by rw [h3.late]; simp) (by simp) (getL_vw h3.n3 h3.late h3.life h3.sz)
  rwa [h3.load] at this
theorem read_law (w W : World) (bb bl bd bs : Nat) (cf : Nat → Nat) (j i : Nat) (hi : i < j) (hj : j ≤ 59) (h : GAt w bb bl bd bs cf j W) :
    Calls Tryd.prog 17 #[.pointer (some ⟨bb, 0, none⟩), .string (fullP i)] W fun e w' => e = .returned (.tuple #[ndV (fullN i (cf i)), .int .i64 0]) ∧ GAt w bb bl bd bs cf j w' := by
  obtain ⟨M, o, sl, ln, g, hl⟩ := h.load
  refine (read_load W bb (fullP i) M (by show 4 ≤ _; omega) o (by omega) hl).mono ?_
  rintro e w' ⟨rfl, hb⟩
  exact ⟨by rw [gr_read o g hi hj], h.below hb⟩
theorem nodes_law (w W : World) (bb bl bd bs : Nat) (cf : Nat → Nat) (j : Nat) (h : GAt w bb bl bd bs cf j W) :
    Calls Tryd.prog 18 #[.pointer (some ⟨bb, 0, none⟩)] W fun e w' => (∃ ao cap, e = .returned (.tuple #[.slice ao (j + 1) cap, .int .i64 0])) ∧ GAt w bb bl bd bs cf j w' := by
  obtain ⟨M, o, sl, ln, g, hl⟩ := h.load
  refine (nodes_load W bb M sl ln (hl W (Below.refl _ _))).mono ?_
  rintro e w' ⟨v, xs, rfl, hx, hr, hb⟩
  obtain ⟨ao, cap, rfl⟩ := row_form hr
  have hlen : xs.length = j + 1 := by rw [← g.len, ← hx, List.length_map]
  rw [hlen]
  exact ⟨⟨ao, cap, rfl⟩, h.below hb⟩
end Go.Proofs.YtcbindgpbeaebaaDoor
