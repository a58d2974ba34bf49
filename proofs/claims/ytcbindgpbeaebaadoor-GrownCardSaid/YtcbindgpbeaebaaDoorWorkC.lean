import Derived.Test.YtcbindgpbeaebaaDoorWorkB
import Derived.Test.YtcbindgpbeaebaaDoorPureT
namespace Go.Proofs.YtcbindgpbeaebaaDoor
open Go.RowKit Go.Deep
attribute [local go_sem ↓] Go.wp_at_zero Go.wp_at_succ

/-- Is it at a path, or below it? -/
def hit (q : ByteArray) (p : Pl) : Bool := (p.node.path.toList == q.toList) || belowB p.node.path q
/-- What taking some of the nodes leaves. -/
def takeSt (q : ByteArray) (st : List Pl × List (Nat × ByteArray)) (xs : List Pl) : List Pl × List (Nat × ByteArray) :=
  xs.foldl (fun st p => if hit q p then (delM st.1 p.node.path, putP st.2 (2 * p.slot) ⟨#[]⟩) else st) st
theorem takeSt_snoc (q : ByteArray) (st : List Pl × List (Nat × ByteArray)) (xs : List Pl) (p : Pl) : takeSt q st (xs ++ [p]) = if hit q p then (delM (takeSt q st xs).1 p.node.path, putP (takeSt q st xs).2 (2 * p.slot) ⟨#[]⟩) else takeSt q st xs := by
  simp [takeSt, List.foldl_append]
theorem delM_ord {M : List Pl} (h : Ord M) (q : ByteArray) : Ord (delM M q) := List.Pairwise.filter _ h
theorem delM_len (M : List Pl) (q : ByteArray) : (delM M q).length ≤ M.length := List.length_filter_le _ _
theorem takeSt_ok (q : ByteArray) (c : Nat) : ∀ (xs : List Pl) (st : List Pl × List (Nat × ByteArray)), Ord st.1 → PsB c st.2 → (∀ p ∈ xs, p.slot < 60) → Ord (takeSt q st xs).1 ∧ (takeSt q st xs).1.length ≤ st.1.length ∧ PsB c (takeSt q st xs).2
  | [], st, h1, h2, _ => ⟨h1, Nat.le_refl _, h2⟩
  | p :: r, st, h1, h2, h3 => by
    have e : takeSt q st (p :: r) = takeSt q (if hit q p then (delM st.1 p.node.path, putP st.2 (2 * p.slot) ⟨#[]⟩) else st) r := rfl
    rw [e]
    split
    · have := takeSt_ok q c r (delM st.1 p.node.path, putP st.2 (2 * p.slot) ⟨#[]⟩) (delM_ord h1 _) (h2.even _ (h3 p (by simp)) _ (by decide)) fun x hx => h3 x (by simp [hx])
      have hl := delM_len st.1 p.node.path
      exact ⟨this.1, Nat.le_trans this.2.1 hl, this.2.2⟩
    · exact takeSt_ok q c r st h1 h2 fun x hx => h3 x (by simp [hx])

/-- A block of another type stays. -/
theorem Tx.other {K : Kp} {w0 w w' : World} {B bl bd bs : Nat} {pv0 pv lv : Value} {ps : List (Nat × ByteArray)} {d : Dk} {bm : Nat} {ev ev' : Value} {M : List Pl} (h : Tx K w0 w B bl bd bs pv0 pv lv ps d bm ev M) (st : DStep bm bm ev ev' w w') {k : Nat} {cs : Array Value} {t : TypeId} (hk : w.heap[k]? = some (.cells cs t (0, 0))) (h1 : t ≠ 127) (h2 : t ≠ 124) : w'.heap[k]? = w.heap[k]? :=
  st.block k (lt_of_heap hk) (ty_ne hk h.map.own h1) (ty_ne hk h.map.own h1) (row_ty h.map.row hk (Ne.symm h2))
theorem Tx.otherL {K : Kp} {w0 w w' : World} {B bl bd bs : Nat} {pv0 pv pv' lv : Value} {ps : List (Nat × ByteArray)} {d : Dk} {bm : Nat} {ev : Value} {M : List Pl} (h : Tx K w0 w B bl bd bs pv0 pv lv ps d bm ev M) (st : DStep bl bl pv pv' w w') {k : Nat} {cs : Array Value} {t : TypeId} (hk : w.heap[k]? = some (.cells cs t (0, 0))) (h1 : t ≠ 113) (h2 : t ≠ 159) : w'.heap[k]? = w.heap[k]? :=
  st.block k (lt_of_heap hk) (ty_ne hk h.sys.log.own h1) (ty_ne hk h.sys.log.own h1) (row_ty h.sys.log.puts hk (Ne.symm h2))

theorem rowP_at : ∀ (xs : List Ps) (k j : Nat) (x : Ps), xs[k]? = some x → j < 6 → (rowP xs)[k * 6 + j]? = (plC x.1)[j]?
  | [], k, j, p, h, _ => by simp at h
  | q :: r, 0, j, p, h, hj => by
    simp at h; subst h
    rw [Nat.zero_mul, Nat.zero_add, rowP, List.flatMap_cons, List.getElem?_append_left (by simp [plC]; omega)]
  | q :: r, k + 1, j, p, h, hj => by
    have ih := rowP_at r k j p (by simpa using h) hj
    rw [rowP, List.flatMap_cons, List.getElem?_append_right (by simp [plC]; omega), ← ih, rowP]
    congr 1
    simp [plC]; omega
theorem row6_at {w : World} {B : Nat} {v : Value} {xs : List Ps} (h : w.ownsRow B 88 6 v xs.length (rowP xs)) (k : Nat) (x : Ps) (hk : xs[k]? = some x) :
    ∃ g cap, v = .slice (some ⟨g, 0, none⟩) xs.length cap ∧ w.cell? ⟨g, k * 6, none⟩ = some (.int .i64 (x.1.slot : Int)) ∧ w.cell? ⟨g, k * 6 + 1, none⟩ = some (.string x.1.node.path) ∧ w.cell? ⟨g, k * 6 + 2, none⟩ = some (.int .i64 x.1.node.kind) ∧ w.cell? ⟨g, k * 6 + 3, none⟩ = some (.int .i64 x.1.node.mode) ∧ w.cell? ⟨g, k * 6 + 4, none⟩ = some (.int .i64 x.1.node.tag) ∧ w.cell? ⟨g, k * 6 + 5, none⟩ = some (.string x.1.node.data) := by
  have hl : k < xs.length := (List.getElem?_eq_some_iff.1 hk).1
  obtain ⟨g, cap, hv, _, hg⟩ := h.form (by omega)
  have hc := h.cells (g := g) (by rw [hv]; rfl)
  have hadd : ∀ j, (⟨g, 0, none⟩ : Addr).add j = ⟨g, j, none⟩ := fun j => by unfold Addr.add; split <;> simp_all
  have hj : ∀ j v, j < 6 → (plC x.1)[j]? = some v → w.cell? ⟨g, k * 6 + j, none⟩ = some v := fun j v hj hv => by
    rw [← hadd]
    exact hc _ _ (by rw [rowP_at xs k j x hk hj, hv])
  exact ⟨g, cap, hv, hj 0 _ (by omega) rfl, hj 1 _ (by omega) rfl, hj 2 _ (by omega) rfl, hj 3 _ (by omega) rfl, hj 4 _ (by omega) rfl, hj 5 _ (by omega) rfl⟩

def TakePost (K : Kp) (w0 : World) (B bl bd bs : Nat) (pv0 pv lv : Value) (ps : List (Nat × ByteArray)) (d : Dk) (bm : Nat) (ev : Value) (M : List Pl) (q : ByteArray) (e : Ending) (w' : World) : Prop :=
  (getM M q = none ∧ e = .returned (.int .i64 4) ∧ Tx K w0 w' B bl bd bs pv0 pv lv ps d bm ev M) ∨
    ((getM M q).isSome = true ∧ e = .returned (.int .i64 0) ∧ ∃ pv' ev', Tx K w0 w' B bl bd bs pv0 pv' lv (takeSt q (M, ps) M).2 d bm ev' (takeSt q (M, ps) M).1)
/-- What stands between two rounds of a take. -/
def TakeRel (K : Kp) (w0 : World) (B bl bd bs : Nat) (pv0 lv : Value) (d : Dk) (bm bk : Nat) (v : Value) (xs : List Ps) (st : List Pl × List (Nat × ByteArray)) (wr : World) : Prop :=
  ∃ pvk evk, Tx K w0 wr B bl bd bs pv0 pvk lv st.2 d bm evk st.1 ∧ wr.ownsRow 0 88 6 v xs.length (rowP xs) ∧ wr.heap[bk]? = some (.cells #[.pointer (some ⟨bl, 0, none⟩), .pointer (some ⟨bm, 0, none⟩)] 116 (0, 0))

set_option maxRecDepth 100000 in
set_option maxHeartbeats 6400000 in
theorem take_any {K : Kp} (w0 w : World) (B bl bd bs : Nat) (pv0 pv lv : Value) (ps : List (Nat × ByteArray)) (d : Dk) (bm : Nat) (ev : Value) (M : List Pl) (q : ByteArray) (c : Nat) (tx : Tx K w0 w B bl bd bs pv0 pv lv ps d bm ev M) (hord : Ord M) (hM : M.length ≤ 60) (hsl : ∀ p ∈ M, p.slot < 60)
    (hn : d.safe.length ≤ 4096) (hn3 : 300 ≤ d.safe.length) (hp : PsB c ps) (hc : c ≤ 12) (hq : q.size ≤ 4611686018427387904) :
    Calls Tryd.prog 74 #[wkV bl bm, .string q] w (TakePost K w0 B bl bd bs pv0 pv lv ps d bm ev M q) := by
  obtain ⟨W, hW⟩ : ∃ W, W = w.alloc (.cells #[.pointer (some ⟨bl, 0, none⟩), .pointer (some ⟨bm, 0, none⟩)] 116) := ⟨_, rfl⟩
  have hB0 : Below w.heap.size w W := by rw [hW]; exact (Below.refl _ w).alloc (Nat.le_refl _) _
  have b0 : W.heap[w.heap.size]? = some (.cells #[.pointer (some ⟨bl, 0, none⟩), .pointer (some ⟨bm, 0, none⟩)] 116 (0, 0)) := by rw [hW]; exact heap_alloc_new w _
  have tx0 := tx.below hB0
  have hg := mget_any W w0.heap.size bm ev M q tx0.map hord (by omega)
  have HG := hide hg
  clear hg
  unfold wkV
  cases hgm : getM M q with
  | none =>
    have HGM := hide hgm
    clear hgm
    go_enter Tryd.func74, Tryd.ntmps74
    go_wp2_with fail
    rw [← hW]
    refine (unhide HG).mono ?_
    rintro e w1 ⟨rfl, hb1⟩
    rw [unhide HGM]
    unfold optPl zPl
    rw [show (none : Option Pl).isSome = false from rfl]
    go_wp2_with fail
    go_ret
    exact .inl ⟨unhide HGM, rfl, (tx0.below hb1).below ((Below.refl _ w1).alloc (Nat.le_refl _) _)⟩
  | some old =>
    have HGM := hide hgm
    clear hgm
    obtain ⟨xs, hxs⟩ : ∃ xs : List Ps, xs.map (·.1) = M := ⟨M.attach.map fun p => ⟨p.1, hsl p.1 p.2⟩, by simp⟩
    have hxl : xs.length = M.length := by rw [← hxs, List.length_map]
    go_enter Tryd.func74, Tryd.ntmps74
    go_wp2_with fail
    rw [← hW]
    refine (unhide HG).mono ?_
    rintro e w1 ⟨rfl, hb1⟩
    rw [unhide HGM]
    unfold optPl plV
    rw [show (some old : Option Pl).isSome = true from rfl]
    obtain ⟨W2, hW2⟩ : ∃ W2, W2 = w1.alloc (.cells #[.int .i64 (old.slot : Int), .string old.node.path, .int .i64 old.node.kind, .int .i64 old.node.mode, .int .i64 old.node.tag, .string old.node.data] 88) := ⟨_, rfl⟩
    have hb2 : Below w1.heap.size w1 W2 := by rw [hW2]; exact (Below.refl _ w1).alloc (Nat.le_refl _) _
    have tx2 := (tx0.below hb1).below hb2
    have b2 : W2.heap[w.heap.size]? = some (.cells #[.pointer (some ⟨bl, 0, none⟩), .pointer (some ⟨bm, 0, none⟩)] 116 (0, 0)) := by
      rw [hb2.block _ (by have := hb1.size; have := lt_of_heap b0; omega), hb1.block _ (lt_of_heap b0)]; exact b0
    have c1 : (w1.alloc (.cells #[.int .i64 (old.slot : Int), .string old.node.path, .int .i64 old.node.kind, .int .i64 old.node.mode, .int .i64 old.node.tag, .string old.node.data] 88)).cell? ⟨w.heap.size, 1, none⟩ = some (.pointer (some ⟨bm, 0, none⟩)) := by
      rw [← hW2, cell_of_row W2 _ _ _ _ _ b2]; rfl
    go_wp2_with fail
    rw [← hW2]
    refine (all_any W2 bm).mono ?_
    rintro e w3 ⟨rfl, hw3⟩
    have hb3 : Below W2.heap.size W2 w3 := by rw [hw3]; exact (Below.refl _ W2).alloc (Nat.le_refl _) _
    have tx3 := tx2.below hb3
    have cB : w3.cell? ⟨W2.heap.size, 0, none⟩ = some (.pointer (some ⟨bm, 0, none⟩)) := by rw [hw3, cell_of_row _ _ _ _ _ _ (heap_alloc_new W2 _)]; rfl
    have hs2 : W2.heap.size = w1.heap.size + 1 := by rw [hW2]; simp
    rw [hs2] at cB
    have hcol := collect_any w3 (w1.heap.size + 1) w0.heap.size bm ev M xs hxs cB tx3.map (by omega)
    have HCOL := hide hcol
    clear hcol hw3
    go_wp2_with fail
    refine (unhide HCOL).mono ?_
    rintro e w4 ⟨v, rfl, hrow, hb4⟩
    have tx4 := tx3.below hb4
    have b4 : w4.heap[w.heap.size]? = some (.cells #[.pointer (some ⟨bl, 0, none⟩), .pointer (some ⟨bm, 0, none⟩)] 116 (0, 0)) := by
      rw [hb4.block _ (by have := hb3.size; have := lt_of_heap b2; omega), hb3.block _ (lt_of_heap b2)]; exact b2
    obtain ⟨ao, cap, hv⟩ := row_form hrow
    subst hv
    have hrow0 : w4.ownsRow 0 88 6 (.slice ao xs.length cap) xs.length (rowP xs) := by
      refine ⟨hrow.1, ?_⟩
      rcases hrow.2 with h | ⟨g, cp, cur, a1, _, a3⟩
      · exact .inl h
      · exact .inr ⟨g, cp, cur, a1, Nat.zero_le _, a3⟩
    have HTX4 := hide tx4
    have HROW := hide hrow0
    have HB4 := hide b4
    clear tx2 tx3 tx4 hrow hrow0 b4 b2 cB c1
    go_wp2_with fail
    go_loopw [24] (fun i wr => ∃ k : Nat, k ≤ xs.length ∧ i = .int .i64 k ∧ TakeRel K w0 B bl bd bs pv0 lv d bm w.heap.size (.slice ao xs.length cap) xs (takeSt q (M, ps) (M.take k)) wr) (fun i _ => xs.length - (intOf i).toNat)
    case atStart => exact ⟨0, Nat.zero_le _, rfl, pv, ev, unhide HTX4, unhide HROW, unhide HB4⟩
    case round =>
      obtain ⟨k, hk, rfl, hrel⟩ := hrel
      by_cases hlt : k < xs.length
      · obtain ⟨pvk, evk, txk, hrk, bk⟩ := hrel
        obtain ⟨x, hx⟩ : ∃ x, xs[k]? = some x := ⟨_, List.getElem?_eq_getElem hlt⟩
        have hMk : M[k]? = some x.1 := by rw [← hxs, List.getElem?_map, hx]; rfl
        obtain ⟨hoK, hlK, hpK⟩ := takeSt_ok q c (M.take k) (M, ps) hord hp fun p hp => hsl p (List.mem_of_mem_take hp)
        have hlK' : (takeSt q (M, ps) (M.take k)).1.length ≤ M.length := hlK
        have hpl := hpK.len
        have hsn := takeSt_snoc q (M, ps) (M.take k) x.1
        rw [show M.take k ++ [x.1] = M.take (k + 1) by rw [List.take_add_one, hMk]; rfl] at hsn
        obtain ⟨st, hst⟩ : ∃ st, st = takeSt q (M, ps) (M.take k) := ⟨_, rfl⟩
        rw [← hst] at txk hoK hlK' hpK hpl hsn
        clear hst hlK
        obtain ⟨g, cap', hv, d0, d1, d2, d3, d4, d5⟩ := row6_at hrk k x hx
        simp only [Value.slice.injEq, true_and] at hv
        obtain ⟨rfl, rfl⟩ := hv
        have i0 : (0 : Int) ≤ (k : Int) := Int.natCast_nonneg _
        have i1 : (k : Int) < (xs.length : Int) := by omega
        -- the box of what is looked at
        obtain ⟨W5, hW5⟩ : ∃ W5, W5 = wr.alloc (.cells #[.int .i64 (x.1.slot : Int), .string x.1.node.path, .int .i64 x.1.node.kind, .int .i64 x.1.node.mode, .int .i64 x.1.node.tag, .string x.1.node.data] 88) := ⟨_, rfl⟩
        have hb5 : Below wr.heap.size wr W5 := by rw [hW5]; exact (Below.refl _ wr).alloc (Nat.le_refl _) _
        have tx5 := txk.below hb5
        have hrow5 := row_below hrk hb5
        have bk5 : W5.heap[w.heap.size]? = some (.cells #[.pointer (some ⟨bl, 0, none⟩), .pointer (some ⟨bm, 0, none⟩)] 116 (0, 0)) := (hb5.block _ (lt_of_heap bk)).trans bk
        have bp5 : W5.heap[wr.heap.size]? = some (.cells #[.int .i64 (x.1.slot : Int), .string x.1.node.path, .int .i64 x.1.node.kind, .int .i64 x.1.node.mode, .int .i64 x.1.node.tag, .string x.1.node.data] 88 (0, 0)) := by rw [hW5]; exact heap_alloc_new wr _
        have k0 : (wr.alloc (.cells #[.int .i64 (x.1.slot : Int), .string x.1.node.path, .int .i64 x.1.node.kind, .int .i64 x.1.node.mode, .int .i64 x.1.node.tag, .string x.1.node.data] 88)).cell? ⟨w.heap.size, 1, none⟩ = some (.pointer (some ⟨bm, 0, none⟩)) := by rw [← hW5, cell_of_row W5 _ _ _ _ _ bk5]; rfl
        have hxz : x.1.slot < 60 := x.2
        have hib := IsBelow_any W5 x.1.node.path q hq
        have hdel := mdelete_any W5 w0.heap.size bm evk st.1 x.1.node.path tx5.map hoK (by omega)
        have HIB := hide hib
        have HDEL := hide hdel
        have HTX := hide tx5
        have HROW5 := hide hrow5
        have HBK := hide bk5
        have HBP := hide bp5
        have HSN := hide hsn
        have HPK := hide hpK
        clear hib hdel tx5 hrow5 bk5 bp5 hsn hpK txk hrk bk hMk hx
        have tail : hit q x.1 = true → ∀ w6 ev6, MAt w6 w0.heap.size bm ev6 (delM st.1 x.1.node.path) → DStep bm bm evk ev6 W5 w6 →
            (w6.cell? ⟨w.heap.size, 0, none⟩ = some (.pointer (some ⟨bl, 0, none⟩)) ∧ w6.cell? ⟨wr.heap.size, 0, none⟩ = some (.int .i64 (x.1.slot : Int))) ∧
            Calls Tryd.prog 101 #[.pointer (some ⟨bl, 0, none⟩), .int .i64 (x.1.slot : Int)] w6 fun e w7 => e = .returned (.int .i64 0) ∧ TakeRel K w0 B bl bd bs pv0 lv d bm w.heap.size (.slice (some ⟨g, 0, none⟩) xs.length cap) xs (takeSt q (M, ps) (M.take (k + 1))) w7 := by
          intro hh w6 ev6 hM6 st6
          have tx6 := (unhide HTX).turnMap hM6 st6
          have bk6 := ((unhide HTX).other st6 (unhide HBK) (by decide) (by decide)).trans (unhide HBK)
          have bp6 := ((unhide HTX).other st6 (unhide HBP) (by decide) (by decide)).trans (unhide HBP)
          refine ⟨⟨by rw [cell_of_row w6 _ _ _ _ _ bk6]; rfl, by rw [cell_of_row w6 _ _ _ _ _ bp6]; rfl⟩, ?_⟩
          have hrow6 : w6.ownsRow 0 88 6 (.slice (some ⟨g, 0, none⟩) xs.length cap) xs.length (rowP xs) := ownsRow_kept (unhide HROW5) fun g' hg' => by
            obtain ⟨c', hc'⟩ := row_blk (unhide HROW5) hg'
            exact (unhide HTX).other st6 hc' (by decide) (by decide)
          refine (clearSlot_any w6 bl bd bs pvk lv st.2 false d x.1.slot tx6.sys.log tx6.sys.disk hn (by omega) hxz).mono ?_
          rintro e w7 ⟨pv7, rfl, hl7, st7⟩
          have hq7 := putL_ok (n := d.safe.length) (ps := st.2) (a := 2 * x.1.slot) (s := ⟨#[]⟩) (by omega) (by decide) (by omega)
          rw [hq7] at hl7 ⊢
          refine ⟨rfl, pv7, ev6, ?_, ?_, ?_⟩
          · rw [unhide HSN, if_pos hh]
            exact tx6.turnLog (tx6.sys.ofLog hl7 st7).1 st7
          · exact ownsRow_kept hrow6 fun g' hg' => by
              obtain ⟨c', hc'⟩ := row_blk hrow6 hg'
              exact tx6.otherL st7 hc' (by decide) (by decide)
          · exact (tx6.otherL st7 bk6 (by decide) (by decide)).trans bk6
        have skip : hit q x.1 = false → TakeRel K w0 B bl bd bs pv0 lv d bm w.heap.size (.slice (some ⟨g, 0, none⟩) xs.length cap) xs (takeSt q (M, ps) (M.take (k + 1))) W5 := by
          intro hh
          refine ⟨pvk, evk, ?_, unhide HROW5, unhide HBK⟩
          rw [unhide HSN, if_neg (by simp [hh])]
          exact unhide HTX
        have HTAIL := hide tail
        have HSKIP := hide skip
        clear tail skip
        cases heq : x.1.node.path.toList == q.toList
        · cases hbl : belowB x.1.node.path q
          · have hh : hit q x.1 = false := by simp [hit, heq, hbl]
            have HBL := hide hbl
            have HH := hide hh
            clear hbl hh
            go_wp2_with fail
            rw [← hW5]
            refine (unhide HIB).mono ?_
            rintro e w6 ⟨rfl, hw6⟩
            rw [unhide HBL]
            go_wp2_with fail
            go_roundw
            case rel => exact ⟨k + 1, by omega, by go_num, by rw [← hW5]; exact (unhide HSKIP) (unhide HH)⟩
            case measure => simp [intOf]; omega
          · have hh : hit q x.1 = true := by simp [hit, hbl]
            have HBL := hide hbl
            have HH := hide hh
            clear hbl hh
            go_wp2_with fail
            rw [← hW5]
            refine (unhide HIB).mono ?_
            rintro e w6 ⟨rfl, hw6⟩
            rw [unhide HBL]
            rw [hW5] at hw6
            subst hw6
            go_wp2_with fail
            rw [← hW5]
            refine (unhide HDEL).mono ?_
            rintro e w6 ⟨ev6, rfl, hM6, st6⟩
            obtain ⟨⟨z0, z1⟩, hcl⟩ := (unhide HTAIL) (unhide HH) w6 ev6 hM6 st6
            have HCL := hide hcl
            clear hcl
            go_wp2_with fail
            refine (unhide HCL).mono ?_
            rintro e w7 ⟨rfl, hr7⟩
            go_wp2_with fail
            go_roundw
            case rel => exact ⟨k + 1, by omega, by go_num, hr7⟩
            case measure => simp [intOf]; omega
        · have hh : hit q x.1 = true := by simp [hit, heq]
          have HH := hide hh
          clear hh
          go_wp2_with fail
          rw [← hW5]
          refine (unhide HDEL).mono ?_
          rintro e w6 ⟨ev6, rfl, hM6, st6⟩
          obtain ⟨⟨z0, z1⟩, hcl⟩ := (unhide HTAIL) (unhide HH) w6 ev6 hM6 st6
          have HCL := hide hcl
          clear hcl
          go_wp2_with fail
          refine (unhide HCL).mono ?_
          rintro e w7 ⟨rfl, hr7⟩
          go_wp2_with fail
          go_roundw
          case rel => exact ⟨k + 1, by omega, by go_num, hr7⟩
          case measure => simp [intOf]; omega
      · have hke : k = xs.length := by omega
        subst hke
        obtain ⟨pvk, evk, txk, _, _⟩ := hrel
        rw [List.take_of_length_le (by omega)] at txk
        have HTXK := hide txk
        clear txk
        go_wp2_with fail
        go_ret
        exact .inr ⟨by rw [unhide HGM]; rfl, rfl, pvk, evk, unhide HTXK⟩
end Go.Proofs.YtcbindgpbeaebaaDoor
