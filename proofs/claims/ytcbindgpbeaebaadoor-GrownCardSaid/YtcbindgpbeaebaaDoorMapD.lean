import Derived.Test.YtcbindgpbeaebaaDoorMapC
namespace Go.Proofs.YtcbindgpbeaebaaDoor
open Go.RowKit Go.Deep

/-- A map, with one thing put. -/
def insM : List Pl → Pl → List Pl
  | [], x => [x]
  | y :: r, x => if cmpB y.node.path x.node.path < 0 then y :: insM r x else if cmpB y.node.path x.node.path = 0 then x :: r else x :: y :: r
theorem insM_pos : ∀ (M : List Pl) (x : Pl) (i : Nat), IsPos M x.node.path i → insM M x = if thereAt M x.node.path i then M.set i x else M.take i ++ x :: M.drop i
  | [], x, i, h => by
    have : i = 0 := by have := h.le; simpa using this
    subst this
    simp [insM, thereAt]
  | y :: r, x, 0, h => by
    have h0 := h.hi 0 y (Nat.le_refl _) rfl
    have h1 : ¬ cmpB y.node.path x.node.path < 0 := by omega
    by_cases h2 : cmpB y.node.path x.node.path = 0
    · simp [insM, thereAt, h2]
    · simp [insM, thereAt, h1, h2]
  | y :: r, x, i + 1, h => by
    have h0 := h.lo 0 y (by omega) rfl
    have ih := insM_pos r x i ⟨by have := h.le; simpa using this, fun k p hk hp => h.lo (k + 1) p (by omega) (by simpa using hp), fun k p hk hp => h.hi (k + 1) p (by omega) (by simpa using hp)⟩
    have e : thereAt (y :: r) x.node.path (i + 1) = thereAt r x.node.path i := by simp [thereAt]
    rw [insM, if_pos h0, ih, e]
    split <;> simp

theorem rowM_set : ∀ (M : List Pl) (i : Nat) (p x : Pl), M[i]? = some p → p.node.path = x.node.path →
    (((((((rowM M).set (i * 7 + 1) (.int .i64 (x.slot : Int))).set (i * 7 + 2) (.string x.node.path)).set (i * 7 + 3) (.int .i64 x.node.kind)).set (i * 7 + 4) (.int .i64 x.node.mode)).set (i * 7 + 5) (.int .i64 x.node.tag)).set (i * 7 + 6) (.string x.node.data)) = rowM (M.set i x)
  | [], _, _, _, h, _ => by simp at h
  | y :: r, 0, p, x, h, hp => by
    simp at h; subst h
    simp [rowM, enC, hp]
  | y :: r, i + 1, p, x, h, hp => by
    have ih := rowM_set r i p x (by simpa using h) hp
    rw [show (i + 1) * 7 = i * 7 + 1 + 1 + 1 + 1 + 1 + 1 + 1 by omega]
    have e : rowM ((y :: r).set (i + 1) x) = enC y ++ rowM (r.set i x) := by simp [rowM]
    rw [e, ← ih]
    have e2 : rowM (y :: r) = enC y ++ rowM r := by simp [rowM]
    rw [e2]
    have e3 : ∀ (L : List Value) (k : Nat) (v : Value), (enC y ++ L).set (i * 7 + 1 + 1 + 1 + 1 + 1 + 1 + 1 + k) v = enC y ++ L.set (i * 7 + k) v := fun L k v => by
      rw [List.set_append_right _ _ (by simp [enC]; omega)]
      congr 2
      simp [enC]; omega
    rw [e3, e3, e3, e3, e3, e3]

/-- A cell of a row is written. -/
theorem row_set {w : World} {B g n cap : Nat} {e : TypeId} {k : Nat} {xs : List Value} (h : w.ownsRow B e k (.slice (some ⟨g, 0, none⟩) n cap) n xs) (j : Nat) (u : Value) : (w.setCell ⟨g, j, none⟩ u).ownsRow B e k (.slice (some ⟨g, 0, none⟩) n cap) n (xs.set j u) := by
  obtain ⟨h1, h2⟩ := h
  refine ⟨by simpa using h1, ?_⟩
  rcases h2 with ⟨h2, _⟩ | ⟨g', cp, cur, hv, hb, hg, a1, a2, a3, a4⟩
  · cases h2
  · simp only [Value.slice.injEq, Option.some.injEq, Addr.mk.injEq, and_true, true_and] at hv
    obtain ⟨rfl, rfl⟩ := hv
    refine .inr ⟨g, cap, cur.setIfInBounds j u, rfl, hb, heap_setCell_same w g j cur _ _ hg, a1, a2, by simpa using a3, ?_⟩
    rw [Array.toList_setIfInBounds, List.take_set, a4]

theorem grown_setCell (w : World) (g a : Nat) (v : Value) : w.grownBy (w.setCell ⟨g, a, none⟩ v) (some g) :=
  ⟨rfl, rfl, rfl, by simp [World.setCell], fun k _ h => Below.heap_setCell _ _ _ _ fun e => h (by rw [show k = g from e])⟩
theorem grown_drew {w w' : World} {r : Option Nat} (h : w.grownBy w' r) : w.grownBy w'.drew r := ⟨h.os, h.tape, h.output, h.size, h.block⟩
theorem grown_six (w : World) (g : Nat) (a b c d e f : Nat) (va vb vc vd ve vf : Value) :
    w.grownBy ((((((w.setCell ⟨g, a, none⟩ va).setCell ⟨g, b, none⟩ vb).setCell ⟨g, c, none⟩ vc).setCell ⟨g, d, none⟩ vd).setCell ⟨g, e, none⟩ ve).setCell ⟨g, f, none⟩ vf).drew (some g) :=
  grown_drew ((((((grown_setCell w g a va).trans (grown_setCell _ g b vb)).trans (grown_setCell _ g c vc)).trans (grown_setCell _ g d vd)).trans (grown_setCell _ g e ve)).trans (grown_setCell _ g f vf))

/-- What a change of a map leaves. -/
def MPost (w : World) (B bm : Nat) (ev : Value) (N : List Pl) (e : Ending) (w' : World) : Prop :=
  ∃ ev', e = .returned (.tuple #[]) ∧ MAt w' B bm ev' N ∧ DStep bm bm ev ev' w w'

/-- Insert, whichever way. -/
theorem insert_any (w : World) (B : Nat) (v : Value) (M : List Pl) (i : Nat) (x : Pl) (bx : Nat) (h : w.ownsRow B 124 7 v M.length (rowM M)) (hB : B ≤ w.heap.size) (hx : w.heap[bx]? = some (.cells (enC x).toArray 124 (0, 0))) (hne : v.ownBlock ≠ some bx) (hi : i ≤ M.length) (hm : M.length ≤ 1000) :
    Calls Tryd.prog 109 #[v, .int .i64 (i : Int), .slice (some ⟨bx, 0, none⟩) 1 1] w (InsPost w B v.ownBlock (M.take i ++ x :: M.drop i)) := by
  rcases Nat.lt_or_eq_of_le hi with hlt | rfl
  · obtain ⟨g, cap, rfl, _, _⟩ := h.form (by omega)
    by_cases hr : M.length + 1 ≤ cap
    · exact insert_room w B g cap M i x bx h hx (fun e => hne (by simp [Value.ownBlock, e])) hlt hm hr
    · exact insert_grow w B g cap M i x bx h hB hx hlt hm (by omega)
  · rw [List.take_length, List.drop_length]
    exact insert_end w B v M x bx h hB hx hm

/-- A map's list of entries is another one. -/
theorem mat_turn {w w1 wa w2 : World} {B bm : Nat} {ev v2 : Value} {M N : List Pl} (hba : Below w.heap.size w w1) (hM : MAt w B bm ev M) (hwa : Below w1.heap.size w1 wa)
    (ho2 : w2.ownsRow B 124 7 v2 N.length (rowM N)) (hg2 : wa.grownBy w2 ev.ownBlock) (hf2 : ∀ g, v2.ownBlock = some g → ev.ownBlock = some g ∨ wa.heap.size ≤ g) :
    MAt (w2.setCell ⟨bm, 0, none⟩ v2) B bm v2 N ∧ DStep bm bm ev v2 w (w2.setCell ⟨bm, 0, none⟩ v2) := by
  have hlt := hM.lt
  have s1 := hba.size
  have s2 := hwa.size
  have hne : ∀ g, v2.ownBlock = some g → g ≠ bm := fun g hg e => by
    rcases hf2 g hg with h | h
    · exact hM.ne (e ▸ h)
    · omega
  have hb : ∀ k, k < w.heap.size → ev.ownBlock ≠ some k → w2.heap[k]? = w.heap[k]? := fun k hk h => by
    rw [hg2.block k (by omega) (Ne.symm h), hwa.block k (by omega), hba.block k hk]
  refine ⟨⟨?_, ownsRow_kept ho2 fun g hg => Below.heap_setCell _ _ _ _ (hne g hg), hM.b0, fun e => hne _ e rfl⟩, ?_⟩
  · rw [heap_setCell_same w2 bm 0 #[ev] _ _ ((hb bm hlt hM.ne).trans hM.own)]
    simp
  · refine ⟨hg2.os.trans (hwa.os.trans hba.os), hg2.tape.trans (hwa.tape.trans hba.tape), hg2.output.trans (hwa.output.trans hba.output), ?_, fun k hk h1 _ h3 => ?_, fun g hg => ?_⟩
    · have := hg2.size; simp [World.setCell]; omega
    · rw [Below.heap_setCell _ _ _ _ h1]; exact hb k hk h3
    · rcases hf2 g hg with h | h
      · exact .inl h
      · exact .inr (by omega)

set_option maxRecDepth 100000 in
set_option maxHeartbeats 3200000 in
theorem mput_any (w : World) (B bm : Nat) (ev : Value) (M : List Pl) (x : Pl) (h : MAt w B bm ev M) (hB : B ≤ w.heap.size) (hord : Ord M) (hm : M.length ≤ 999) :
    Calls Tryd.prog 81 #[.pointer (some ⟨bm, 0, none⟩), .string x.node.path, plV x] w (MPost w B bm ev (insM M x)) := by
  unfold plV
  go_enter Tryd.func81, Tryd.ntmps81
  go_wp2_with fail
  refine (mfind_any _ B bm ev M x.node.path (h.below ((Below.refl _ _).alloc (Nat.le_refl _) _)) hord (by omega)).mono ?_
  rintro e w1 ⟨i, rfl, hi, hb⟩
  have hI := insM_pos M x i hi
  have hM := (h.below ((Below.refl _ _).alloc (Nat.le_refl _) _)).below hb
  have hb1 : Below (w.heap.size + 1) (w.alloc (.cells #[.int .i64 (x.slot : Int), .string x.node.path, .int .i64 x.node.kind, .int .i64 x.node.mode, .int .i64 x.node.tag, .string x.node.data] 88)) w1 := by simpa using hb
  have hc := hb1.block w.heap.size (by omega)
  rw [heap_alloc_new] at hc
  have hba : Below w.heap.size w w1 := ((Below.refl w.heap.size w).alloc (Nat.le_refl _) _).trans (hb1.mono (by omega))
  have hsz := hb1.size
  simp at hsz
  have c := fun j => cell_of_row w1.drew w.heap.size j _ _ _ hc
  have c0 := c 0
  have c1 := c 1
  have c2 := c 2
  have c3 := c 3
  have c4 := c 4
  have c5 := c 5
  simp at c0 c1 c2 c3 c4 c5
  clear c
  have mc : w1.cell? ⟨bm, 0, none⟩ = some ev := hM.cell
  have mf : w1.frozen? ⟨bm, 0, none⟩ = false := hM.fz 0
  have HB := hide hb1
  have HBA := hide hba
  have HC := hide hc
  clear hb hb1 hba hc
  cases ht : thereAt M x.node.path i
  · rw [ht] at hI
    have HI := hide (show insM M x = M.take i ++ x :: M.drop i from hI)
    clear hI
    have hev : ∀ g, ev.ownBlock = some g → g < w.heap.size := fun g hg => (h.row.lt g hg).2
    have hnx : ev.ownBlock ≠ some w1.heap.size := fun e => by have := hev _ e; omega
    have hnb : some w.heap.size ≠ ev.ownBlock := fun e => by have := hev _ e.symm; omega
    have hnm : some bm ≠ ev.ownBlock := Ne.symm hM.ne
    have hins := insert_any (w1.alloc (.cells #[.string x.node.path, .int .i64 (x.slot : Int), .string x.node.path, .int .i64 x.node.kind, .int .i64 x.node.mode, .int .i64 x.node.tag, .string x.node.data] 124)).drew B ev M i x w1.heap.size ((hM.row.alloc _).drew) (by simp; omega) (heap_alloc_new w1 _) hnx hi.le (by omega)
    have HIN := hide hins
    have HM := hide hM
    have hblk : ∀ (w2 : World), (w1.alloc (.cells #[.string x.node.path, .int .i64 (x.slot : Int), .string x.node.path, .int .i64 x.node.kind, .int .i64 x.node.mode, .int .i64 x.node.tag, .string x.node.data] 124)).drew.grownBy w2 ev.ownBlock → ∀ k, k < w1.heap.size → some k ≠ ev.ownBlock → w2.heap[k]? = w1.heap[k]? := fun w2 hg k hk hne => by
      rw [hg.block k (by simp; omega) hne]
      exact Below.heap_alloc w1 _ k hk
    have HBK := hide hblk
    have hal : ∀ (a : Addr) (v : Value), w1.cell? a = some v → (w1.alloc (.cells #[.string x.node.path, .int .i64 (x.slot : Int), .string x.node.path, .int .i64 x.node.kind, .int .i64 x.node.mode, .int .i64 x.node.tag, .string x.node.data] 124)).cell? a = some v := fun a v hv =>
      (World.cell?_of_block (Below.heap_alloc w1 _ _ (World.block_lt_of_cell? w1 _ hv))).trans hv
    have a0 := hal _ _ c0
    have a1 := hal _ _ c1
    have a2 := hal _ _ c2
    have a3 := hal _ _ c3
    have a4 := hal _ _ c4
    have a5 := hal _ _ c5
    have a6 := hal _ _ mc
    clear hal
    clear hM hins hblk
    have hil := hi.le
    have hbm : bm < w.heap.size := h.lt
    have hbn : ¬ bm = w1.heap.size := by omega
    have hbn2 : ¬ w.heap.size = w1.heap.size := by omega
    go_wp2_with fail
    go_region_with ((go_at_call 109; refine (unhide HIN).mono ?_; rintro e w2 ⟨v2, rfl, ho2, hg2, hf2⟩; obtain ⟨ao2, cap2, hv2⟩ := row_form ho2; subst hv2; have hb2 := (unhide HBK) w2 hg2; have s0 := (World.cell?_of_block (a := ⟨bm, 0, none⟩) (hb2 bm (by omega) hnm)).trans mc; have s1 := (World.frozen?_of_block (a := ⟨bm, 0, none⟩) (hb2 bm (by omega) hnm)).trans mf; have s2 := (World.cell?_of_block (a := ⟨w.heap.size, 0, none⟩) (hb2 w.heap.size (by omega) hnb)).trans c0; have s3 := (World.cell?_of_block (a := ⟨w.heap.size, 1, none⟩) (hb2 w.heap.size (by omega) hnb)).trans c1; have s4 := (World.cell?_of_block (a := ⟨w.heap.size, 2, none⟩) (hb2 w.heap.size (by omega) hnb)).trans c2; have s5 := (World.cell?_of_block (a := ⟨w.heap.size, 3, none⟩) (hb2 w.heap.size (by omega) hnb)).trans c3; have s6 := (World.cell?_of_block (a := ⟨w.heap.size, 4, none⟩) (hb2 w.heap.size (by omega) hnb)).trans c4; have s7 := (World.cell?_of_block (a := ⟨w.heap.size, 5, none⟩) (hb2 w.heap.size (by omega) hnb)).trans c5; have HO2 := hide ho2; have HG2 := hide hg2; have HF2 := hide hf2; have HB2 := hide hb2; clear ho2 hg2 hf2 hb2))
    all_goals
      go_returns
      have ht := mat_turn (unhide HBA) h (wa := (w1.alloc (.cells #[.string x.node.path, .int .i64 (x.slot : Int), .string x.node.path, .int .i64 x.node.kind, .int .i64 x.node.mode, .int .i64 x.node.tag, .string x.node.data] 124)).drew) (((Below.refl _ w1).alloc (Nat.le_refl _) _).drew) (unhide HO2) (unhide HG2) (unhide HF2)
      refine ⟨.slice ao2 (i + (M.length - i + 1)) cap2, rfl, ?_⟩
      rw [unhide HI]
      have hl : (M.take i ++ x :: M.drop i).length = i + (M.length - i + 1) := by simp; omega
      rw [hl] at ht
      exact ht
  · rw [ht] at hI
    have HI := hide (show insM M x = M.set i x from hI)
    clear hI
    have hil : i < M.length := by
      unfold thereAt at ht
      cases hq : M[i]? with
      | none => rw [hq] at ht; cases ht
      | some p => exact (List.getElem?_eq_some_iff.1 hq).1
    obtain ⟨p, hp⟩ : ∃ p, M[i]? = some p := ⟨_, List.getElem?_eq_getElem hil⟩
    have hpe : p.node.path = x.node.path := by
      unfold thereAt at ht
      rw [hp] at ht
      exact cmpB_zero (by simpa using ht)
    obtain ⟨g, cap, rfl, ⟨d0, d1, d2, d3, d4, d5, d6⟩, hgl⟩ := row7_at hM.row i p hp
    have i0 : (0 : Int) ≤ (i : Int) := Int.natCast_nonneg _
    have i1 : (i : Int) < (M.length : Int) := by omega
    have fr : ∀ j, w1.frozen? ⟨g, j, none⟩ = false := fun j => by
      rcases hM.row.2 with ⟨h2, _⟩ | ⟨g', cp, cur, hv, hb', hg', _⟩
      · cases h2
      · simp only [Value.slice.injEq, Option.some.injEq, Addr.mk.injEq, and_true, true_and] at hv
        obtain ⟨rfl, rfl⟩ := hv
        exact frozen_of_row w1 g j _ _ hg'
    have f1 := fr (i * 7 + 1)
    have f2 := fr (i * 7 + 1 + 1)
    have f3 := fr (i * 7 + 1 + 2)
    have f4 := fr (i * 7 + 1 + 3)
    have f5 := fr (i * 7 + 1 + 4)
    have f6 := fr (i * 7 + 1 + 5)
    have e1 : w1.cell? ⟨g, i * 7 + 1, none⟩ = some (.int .i64 (p.slot : Int)) := d1
    have e2 : w1.cell? ⟨g, i * 7 + 1 + 1, none⟩ = some (.string p.node.path) := d2
    have e3 : w1.cell? ⟨g, i * 7 + 1 + 2, none⟩ = some (.int .i64 p.node.kind) := d3
    have e4 : w1.cell? ⟨g, i * 7 + 1 + 3, none⟩ = some (.int .i64 p.node.mode) := d4
    have e5 : w1.cell? ⟨g, i * 7 + 1 + 4, none⟩ = some (.int .i64 p.node.tag) := d5
    have e6 : w1.cell? ⟨g, i * 7 + 1 + 5, none⟩ = some (.string p.node.data) := d6
    have HM := hide hM
    have HP := hide hp
    have HPE := hide hpe
    clear hM hp hpe d0 d1 d2 d3 d4 d5 d6 fr
    go_wp2_with fail
    go_region
    go_wp2_with fail
    go_returns
    have hM := unhide HM
    have hne : ¬ bm = g := fun e => hM.ne (by simp [Value.ownBlock, e])
    have hl : (M.set i x).length = M.length := List.length_set
    have hgr := grown_six w1 g (i * 7 + 1) (i * 7 + 1 + 1) (i * 7 + 1 + 2) (i * 7 + 1 + 3) (i * 7 + 1 + 4) (i * 7 + 1 + 5) (.int .i64 (x.slot : Int)) (.string x.node.path) (.int .i64 x.node.kind) (.int .i64 x.node.mode) (.int .i64 x.node.tag) (.string x.node.data)
    refine ⟨.slice (some ⟨g, 0, none⟩) M.length cap, rfl, ⟨?_, ?_, hM.b0, hM.ne⟩, ?_⟩
    · exact (hgr.block bm hM.lt (by simp [hne])).trans hM.own
    · have hs := rowM_set M i p x (unhide HP) (unhide HPE)
      rw [show i * 7 + 2 = i * 7 + 1 + 1 from rfl, show i * 7 + 3 = i * 7 + 1 + 2 from rfl, show i * 7 + 4 = i * 7 + 1 + 3 from rfl, show i * 7 + 5 = i * 7 + 1 + 4 from rfl, show i * 7 + 6 = i * 7 + 1 + 5 from rfl] at hs
      rw [unhide HI, hl, ← hs]
      exact (row_set (row_set (row_set (row_set (row_set (row_set hM.row (i * 7 + 1) _) (i * 7 + 1 + 1) _) (i * 7 + 1 + 2) _) (i * 7 + 1 + 3) _) (i * 7 + 1 + 4) _) (i * 7 + 1 + 5) _).drew
    · have hba := unhide HBA
      exact ⟨hgr.os.trans hba.os, hgr.tape.trans hba.tape, hgr.output.trans hba.output, Nat.le_trans hba.size hgr.size, fun k hk h1 _ h3 => (hgr.block k (by omega) (fun e => h3 (by simp [Value.ownBlock]; simpa using e.symm))).trans (hba.block k hk), fun q hq => .inl hq⟩
end Go.Proofs.YtcbindgpbeaebaaDoor
