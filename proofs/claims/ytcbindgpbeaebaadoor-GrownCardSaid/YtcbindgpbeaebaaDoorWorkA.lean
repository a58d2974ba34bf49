import Derived.Test.YtcbindgpbeaebaaDoorSlotC
import Derived.Test.YtcbindgpbeaebaaDoorPathA
namespace Go.Proofs.YtcbindgpbeaebaaDoor
open Go.RowKit Go.Deep
attribute [local go_sem ↓] Go.wp_at_zero Go.wp_at_succ

/-! ### Blocks of other types are other blocks -/
theorem ty_ne {w : World} {a b : Nat} {cs cs' : Array Value} {t t' : TypeId} {fr fr' : Nat × Nat} (ha : w.heap[a]? = some (.cells cs t fr)) (hb : w.heap[b]? = some (.cells cs' t' fr')) (h : t ≠ t') : a ≠ b := by
  intro e
  subst e
  rw [ha] at hb
  simp only [Option.some.injEq, Obj.cells.injEq] at hb
  exact h hb.2.1
theorem row_blk {w : World} {b : Nat} {e : TypeId} {size : Nat} {v : Value} {n : Nat} {xs : List Value} (h : w.ownsRow b e size v n xs) {g : Nat} (hg : v.ownBlock = some g) : ∃ cur, w.heap[g]? = some (.cells cur e (0, 0)) := by
  rcases h.2 with ⟨e1, _⟩ | ⟨g', cap, cur, e1, _, hh, _⟩
  · rw [e1] at hg; cases hg
  · rw [e1] at hg
    have : g' = g := by simpa [Value.ownBlock] using hg
    subst this
    exact ⟨cur, hh⟩
theorem row_ty {w : World} {b : Nat} {e : TypeId} {size : Nat} {v : Value} {n : Nat} {xs : List Value} (h : w.ownsRow b e size v n xs) {k : Nat} {cs : Array Value} {t : TypeId} {fr : Nat × Nat} (hk : w.heap[k]? = some (.cells cs t fr)) (hne : e ≠ t) : v.ownBlock ≠ some k := fun hg => by
  obtain ⟨cur, hc⟩ := row_blk h hg
  exact ty_ne hc hk hne rfl
/-- Blocks that a transaction leaves alone. -/
abbrev Kp := List (Nat × Array Value × TypeId)
/-- A transaction that is under way, and the nodes as it has left them. -/
structure Tx (K : Kp) (w0 w : World) (B bl bd bs : Nat) (pv0 pv lv : Value) (ps : List (Nat × ByteArray)) (d : Dk) (bm : Nat) (ev : Value) (M : List Pl) : Prop where
  sys : Sys w B bl bd bs pv lv ps false d
  map : MAt w w0.heap.size bm ev M
  st : DStep bl bl pv0 pv w0 w
  keep : ∀ x ∈ K, w.heap[x.1]? = some (.cells x.2.1 x.2.2 (0, 0)) ∧ x.2.2 ≠ 127 ∧ x.2.2 ≠ 124 ∧ x.2.2 ≠ 113 ∧ x.2.2 ≠ 159
section
variable {K : Kp} {w0 w w' : World} {B bl bd bs : Nat} {pv0 pv lv : Value} {ps : List (Nat × ByteArray)} {d : Dk} {bm : Nat} {ev : Value} {M : List Pl}
theorem Tx.size (h : Tx K w0 w B bl bd bs pv0 pv lv ps d bm ev M) : w0.heap.size ≤ w.heap.size := h.st.size
theorem sys_kept {br : Bool} (s : Sys w B bl bd bs pv lv ps br d) (hsz : w.heap.size ≤ w'.heap.size) (hk : ∀ k, k < w.heap.size → (∀ cs t, w.heap[k]? = some (.cells cs t (0, 0)) → t ≠ 127 ∧ t ≠ 124) → w'.heap[k]? = w.heap[k]?) : Sys w' B bl bd bs pv lv ps br d := by
  obtain ⟨cur, hbs, _⟩ := s.disk.sb
  have go : ∀ (k : Nat) (cs : Array Value) (t : TypeId), w.heap[k]? = some (.cells cs t (0, 0)) → t ≠ 127 → t ≠ 124 → w'.heap[k]? = w.heap[k]? := fun k cs t hc h1 h2 => hk k (lt_of_heap hc) fun cs' t' hc' => by
    rw [hc] at hc'
    simp only [Option.some.injEq, Obj.cells.injEq] at hc'
    rw [← hc'.2.1]
    exact ⟨h1, h2⟩
  refine ⟨s.log.kept fun k hk' e => ?_, s.disk.kept fun k hk' e => ?_, s.sep, Nat.le_trans s.base hsz⟩
  · rcases e with rfl | e
    · exact go _ _ _ s.log.own (by decide) (by decide)
    · obtain ⟨c, hc⟩ := row_blk s.log.puts e
      exact go _ _ _ hc (by decide) (by decide)
  · rcases e with rfl | rfl | e
    · exact go _ _ _ s.disk.own (by decide) (by decide)
    · exact go _ _ _ hbs (by decide) (by decide)
    · obtain ⟨c, hc⟩ := row_blk s.disk.late e
      exact go _ _ _ hc (by decide) (by decide)
theorem Tx.below (h : Tx K w0 w B bl bd bs pv0 pv lv ps d bm ev M) (hb : Below w.heap.size w w') : Tx K w0 w' B bl bd bs pv0 pv lv ps d bm ev M :=
  ⟨sys_kept h.sys hb.size fun k hk _ => hb.block k hk, h.map.below hb, h.st.trans (DStep.ofBelow hb), fun x hx => ⟨(hb.block _ (lt_of_heap (h.keep x hx).1)).trans (h.keep x hx).1, (h.keep x hx).2⟩⟩
/-- The map is turned. -/
theorem Tx.turnMap (h : Tx K w0 w B bl bd bs pv0 pv lv ps d bm ev M) {ev' : Value} {M' : List Pl} (hM : MAt w' w0.heap.size bm ev' M') (st : DStep bm bm ev ev' w w') : Tx K w0 w' B bl bd bs pv0 pv lv ps d bm ev' M' := by
  refine ⟨sys_kept h.sys st.size fun k hk ht => st.block k hk ?_ ?_ ?_, hM, ?_, fun x hx => ?_⟩
  · intro e; subst e; exact (ht _ _ h.map.own).1 rfl
  · intro e; subst e; exact (ht _ _ h.map.own).1 rfl
  · intro e
    obtain ⟨c, hc⟩ := row_blk h.map.row e
    exact (ht _ _ hc).2 rfl
  · refine ⟨st.os.trans h.st.os, st.tape.trans h.st.tape, st.output.trans h.st.output, Nat.le_trans h.st.size st.size, fun k hk h1 h2 h3 => ?_, h.st.fresh⟩
    have hm0 := h.map.b0
    have hsz := h.st.size
    rw [st.block k (by omega) (by omega) (by omega) (fun e => by have := (h.map.row.lt k e).1; omega), h.st.block k hk h1 h2 h3]
  · obtain ⟨k1, k2, k3, k4, k5⟩ := h.keep x hx
    exact ⟨(st.block _ (lt_of_heap k1) (ty_ne k1 h.map.own k2) (ty_ne k1 h.map.own k2) (row_ty h.map.row k1 (Ne.symm k3))).trans k1, k2, k3, k4, k5⟩
/-- The log is turned. -/
theorem Tx.turnLog (h : Tx K w0 w B bl bd bs pv0 pv lv ps d bm ev M) {pv' : Value} {ps' : List (Nat × ByteArray)} (s' : Sys w' B bl bd bs pv' lv ps' false d) (st : DStep bl bl pv pv' w w') : Tx K w0 w' B bl bd bs pv0 pv' lv ps' d bm ev M := by
  refine ⟨s', h.map.kept fun k hk e => st.block k hk ?_ ?_ ?_, h.st.trans st, fun x hx => ?_⟩
  case refine_4 =>
    obtain ⟨k1, k2, k3, k4, k5⟩ := h.keep x hx
    exact ⟨(st.block _ (lt_of_heap k1) (ty_ne k1 h.sys.log.own k4) (ty_ne k1 h.sys.log.own k4) (row_ty h.sys.log.puts k1 (Ne.symm k5))).trans k1, k2, k3, k4, k5⟩
  all_goals
    obtain ⟨c, t, hc, ht⟩ : ∃ c t, w.heap[k]? = some (.cells c t (0, 0)) ∧ (t = 127 ∨ t = 124) := by
      rcases e with rfl | e
      · exact ⟨_, _, h.map.own, .inl rfl⟩
      · obtain ⟨c, hc⟩ := row_blk h.map.row e
        exact ⟨_, _, hc, .inr rfl⟩
  · exact ty_ne hc h.sys.log.own (by rcases ht with rfl | rfl <;> decide)
  · exact ty_ne hc h.sys.log.own (by rcases ht with rfl | rfl <;> decide)
  · exact row_ty h.sys.log.puts hc (by rcases ht with rfl | rfl <;> decide)
end

/-- The work, as a value. -/
def wkV (bl bm : Nat) : Value := .agg #[.pointer (some ⟨bl, 0, none⟩), .pointer (some ⟨bm, 0, none⟩)]

/-- Why a path has no directory to stand in; 0: it has one. -/
def chk (M : List Pl) (q : ByteArray) : Int := if (parentB q).size = 0 then 0 else match getM M (parentB q) with
  | none => 4
  | some p => if p.node.kind = 2 then 0 else 6

set_option maxRecDepth 100000 in
set_option maxHeartbeats 3200000 in
theorem checkParent_any (w : World) (B bl bm : Nat) (ev : Value) (M : List Pl) (q : ByteArray) (h : MAt w B bm ev M) (hord : Ord M) (hm : M.length ≤ 1000) (hq : q.size ≤ 4611686018427387904) :
    Calls Tryd.prog 102 #[wkV bl bm, .string q] w fun e w' => e = .returned (.int .i64 (chk M q)) ∧ Below w.heap.size w w' := by
  unfold wkV
  obtain ⟨up, hup⟩ : ∃ up, up = parentB q := ⟨_, rfl⟩
  have hP := fun w => Parent_any w q hq
  have hck : chk M q = if up.size = 0 then 0 else match getM M up with
    | none => 4
    | some p => if p.node.kind = 2 then 0 else 6 := by rw [hup]; rfl
  rw [← hup] at hP
  clear hup
  have hE := isEmpty_size up
  by_cases h0 : up.size = 0
  · rw [if_pos h0] at hck
    rw [decide_eq_true h0] at hE
    have HK := hide hck
    clear hck
    go_enter Tryd.func102, Tryd.ntmps102
    go_wp2_with fail
    refine (hP _).mono ?_
    rintro e w1 ⟨rfl, rfl⟩
    go_wp2_with fail
    go_ret
    exact ⟨by rw [unhide HK]; rfl, (Below.refl _ w).alloc (Nat.le_refl _) _⟩
  · rw [if_neg h0] at hck
    rw [decide_eq_false h0] at hE
    have hg := mget_any (w.alloc (.cells #[.pointer (some ⟨bl, 0, none⟩), .pointer (some ⟨bm, 0, none⟩)] 116)) B bm ev M up (h.below ((Below.refl _ w).alloc (Nat.le_refl _) _)) hord (by omega)
    have HG := hide hg
    clear hg
    cases hgm : getM M up with
    | none =>
      rw [hgm] at hck
      have HK := hide (show chk M q = 4 from hck)
      have HGM := hide hgm
      clear hck hgm
      go_enter Tryd.func102, Tryd.ntmps102
      go_wp2_with fail
      refine (hP _).mono ?_
      rintro e w1 ⟨rfl, rfl⟩
      go_wp2_with fail
      refine (unhide HG).mono ?_
      rintro e w2 ⟨rfl, hb2⟩
      rw [unhide HGM]
      unfold optPl zPl
      rw [show (none : Option Pl).isSome = false from rfl]
      go_wp2_with fail
      go_ret
      have hB2 : Below w.heap.size w w2 := ((Below.refl _ w).alloc (Nat.le_refl _) _).trans (hb2.mono (by simp))
      exact ⟨by rw [unhide HK]; rfl, hB2.alloc hB2.size _⟩
    | some p =>
      rw [hgm] at hck
      have HK := hide (show chk M q = if p.node.kind = 2 then 0 else 6 from hck)
      have HGM := hide hgm
      clear hck hgm
      by_cases hk : p.node.kind = 2
      · have HKK := hide ((unhide HK).trans (if_pos hk))
        go_enter Tryd.func102, Tryd.ntmps102
        go_wp2_with fail
        refine (hP _).mono ?_
        rintro e w1 ⟨rfl, rfl⟩
        go_wp2_with fail
        refine (unhide HG).mono ?_
        rintro e w2 ⟨rfl, hb2⟩
        rw [unhide HGM]
        unfold optPl plV
        rw [show (some p : Option Pl).isSome = true from rfl]
        go_wp2_with fail
        go_ret
        have hB2 : Below w.heap.size w w2 := ((Below.refl _ w).alloc (Nat.le_refl _) _).trans (hb2.mono (by simp))
        exact ⟨by rw [unhide HKK]; rfl, hB2.alloc hB2.size _⟩
      · have HKK := hide ((unhide HK).trans (if_neg hk))
        go_enter Tryd.func102, Tryd.ntmps102
        go_wp2_with fail
        refine (hP _).mono ?_
        rintro e w1 ⟨rfl, rfl⟩
        go_wp2_with fail
        refine (unhide HG).mono ?_
        rintro e w2 ⟨rfl, hb2⟩
        rw [unhide HGM]
        unfold optPl plV
        rw [show (some p : Option Pl).isSome = true from rfl]
        go_wp2_with fail
        go_ret
        have hB2 : Below w.heap.size w w2 := ((Below.refl _ w).alloc (Nat.le_refl _) _).trans (hb2.mono (by simp))
        exact ⟨by rw [unhide HKK]; rfl, hB2.alloc hB2.size _⟩
end Go.Proofs.YtcbindgpbeaebaaDoor
