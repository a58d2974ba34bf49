import Derived.Test.YtcbindgpbeaebaaDoorWorkA
namespace Go.Proofs.YtcbindgpbeaebaaDoor
open Go.RowKit Go.Deep
attribute [local go_sem ↓] Go.wp_at_zero Go.wp_at_succ

/-- Why a node can't be put; 0: it can. -/
def putErr (M : List Pl) (n : Nd) : Int := if chk M n.path ≠ 0 then chk M n.path else match getM M n.path with
  | some old => if old.node.kind ≠ n.kind then 6 else 0
  | none => if 60 ≤ M.length then 8 else 0
/-- A slot for a node: that of what it replaces, or a free one. -/
def SlotFor (M : List Pl) (n : Nd) (slot : Nat) : Prop := slot < 60 ∧ ((∃ old, getM M n.path = some old ∧ old.slot = slot) ∨ (getM M n.path = none ∧ ∀ p ∈ M, p.slot ≠ slot))
def PutPost (K : Kp) (w0 : World) (B bl bd bs : Nat) (pv0 pv lv : Value) (ps : List (Nat × ByteArray)) (d : Dk) (bm : Nat) (ev : Value) (M : List Pl) (n : Nd) (e : Ending) (w' : World) : Prop :=
  e = .returned (.int .i64 (putErr M n)) ∧ ((putErr M n ≠ 0 ∧ Tx K w0 w' B bl bd bs pv0 pv lv ps d bm ev M) ∨
    (putErr M n = 0 ∧ ∃ slot pv' ev', SlotFor M n slot ∧ Tx K w0 w' B bl bd bs pv0 pv' lv (put2 ps slot (enc n)) d bm ev' (insM M ⟨slot, n⟩)))

/-- The two boxes of a call: of the work, of the node. -/
structure Two (w : World) (b bl bm : Nat) (n : Nd) : Prop where
  b0 : w.heap[b]? = some (.cells #[.pointer (some ⟨bl, 0, none⟩), .pointer (some ⟨bm, 0, none⟩)] 116 (0, 0))
  b1 : w.heap[b + 1]? = some (.cells #[.string n.path, .int .i64 n.kind, .int .i64 n.mode, .int .i64 n.tag, .string n.data] 45 (0, 0))
theorem Two.cells {w : World} {b bl bm : Nat} {n : Nd} (h : Two w b bl bm n) : w.cell? ⟨b, 0, none⟩ = some (.pointer (some ⟨bl, 0, none⟩)) ∧ w.cell? ⟨b, 1, none⟩ = some (.pointer (some ⟨bm, 0, none⟩)) ∧
    w.cell? ⟨b + 1, 0, none⟩ = some (.string n.path) ∧ w.cell? ⟨b + 1, 1, none⟩ = some (.int .i64 n.kind) ∧ w.cell? ⟨b + 1, 2, none⟩ = some (.int .i64 n.mode) ∧ w.cell? ⟨b + 1, 3, none⟩ = some (.int .i64 n.tag) ∧ w.cell? ⟨b + 1, 4, none⟩ = some (.string n.data) := by
  refine ⟨?_, ?_, ?_, ?_, ?_, ?_, ?_⟩
  · rw [cell_of_row w b _ _ _ _ h.b0]; rfl
  · rw [cell_of_row w b _ _ _ _ h.b0]; rfl
  all_goals (rw [cell_of_row w (b + 1) _ _ _ _ h.b1]; rfl)
theorem Two.kept {w w' : World} {b bl bm : Nat} {n : Nd} (h : Two w b bl bm n) (h0 : w'.heap[b]? = w.heap[b]?) (h1 : w'.heap[b + 1]? = w.heap[b + 1]?) : Two w' b bl bm n := ⟨h0.trans h.b0, h1.trans h.b1⟩
theorem Two.below {w w' : World} {b bl bm : Nat} {n : Nd} (h : Two w b bl bm n) (hb : Below w.heap.size w w') : Two w' b bl bm n := h.kept (hb.block _ (lt_of_heap h.b0)) (hb.block _ (lt_of_heap h.b1))
theorem Two.alloc {w : World} {b bl bm : Nat} {n : Nd} (h : Two w b bl bm n) (o : Obj) : Two (w.alloc o) b bl bm n := h.below ((Below.refl _ w).alloc (Nat.le_refl _) o)

set_option maxRecDepth 100000 in
set_option maxHeartbeats 6400000 in
theorem wput_any {K : Kp} (w0 w : World) (B bl bd bs : Nat) (pv0 pv lv : Value) (ps : List (Nat × ByteArray)) (d : Dk) (bm : Nat) (ev : Value) (M : List Pl) (n : Nd) (tx : Tx K w0 w B bl bd bs pv0 pv lv ps d bm ev M) (hord : Ord M) (hM : M.length ≤ 60) (hsl : ∀ p ∈ M, p.slot < 60)
    (hn : d.safe.length ≤ 4096) (hn3 : 300 ≤ d.safe.length) (hp : ps.length ≤ 78) (hk : 0 ≤ n.kind ∧ n.kind < 256) (hm : 0 ≤ n.mode ∧ n.mode < 512) (htg : 0 ≤ n.tag ∧ n.tag < 256) (hpz : n.path.size ≤ 60) (hdz : n.data.size ≤ 400) :
    Calls Tryd.prog 75 #[wkV bl bm, ndV n] w (PutPost K w0 B bl bd bs pv0 pv lv ps d bm ev M n) := by
  obtain ⟨W, hW⟩ : ∃ W, W = (w.alloc (.cells #[.pointer (some ⟨bl, 0, none⟩), .pointer (some ⟨bm, 0, none⟩)] 116)).alloc (.cells #[.string n.path, .int .i64 n.kind, .int .i64 n.mode, .int .i64 n.tag, .string n.data] 45) := ⟨_, rfl⟩
  have hB0 : Below w.heap.size w W := by rw [hW]; exact ((Below.refl _ w).alloc (Nat.le_refl _) _).alloc (by simp) _
  have two : Two W w.heap.size bl bm n := by
    rw [hW]
    exact ⟨(Below.heap_alloc _ _ _ (by simp)).trans (heap_alloc_new w _), heap_two' w _ _⟩
  have tx0 := tx.below hB0
  have hlt := tx.map.lt
  have hevl : ∀ g, ev.ownBlock = some g → g < w.heap.size := fun g hg => (tx.map.row.lt g hg).2
  obtain ⟨c0, c1, m0, m1, m2, m3, m4⟩ := two.cells
  have hck := checkParent_any W w0.heap.size bl bm ev M n.path tx0.map hord (by omega) (by omega)
  obtain ⟨ck, hcke⟩ : ∃ ck, ck = chk M n.path := ⟨_, rfl⟩
  have hpe : putErr M n = if ck ≠ 0 then ck else match getM M n.path with
    | some old => if old.node.kind ≠ n.kind then 6 else 0
    | none => if 60 ≤ M.length then 8 else 0 := by rw [hcke]; rfl
  rw [← hcke] at hck
  clear hcke
  unfold wkV at hck ⊢
  unfold ndV
  have HCK := hide hck
  clear hck
  by_cases hc0 : ck = 0
  case neg =>
    have HPE := hide (hpe.trans (if_pos hc0))
    clear hpe
    have hcb : (ck == 0) = false := by simpa using hc0
    have HC0 := hide hc0
    clear hc0
    go_enter Tryd.func75, Tryd.ntmps75
    go_wp2_with fail
    rw [← hW]
    refine (unhide HCK).mono ?_
    rintro e w1 ⟨rfl, hb1⟩
    go_wp2_with fail
    go_ret
    exact ⟨by rw [unhide HPE]; rfl, .inl ⟨by rw [unhide HPE]; exact unhide HC0, tx0.below hb1⟩⟩
  case pos =>
    have hpe2 := hpe.trans (if_neg (by simpa using hc0))
    clear hpe
    subst hc0
    cases hgm : getM M n.path with
    | none =>
      rw [hgm] at hpe2
      dsimp only at hpe2
      by_cases h60 : 60 ≤ M.length
      · have HPE := hide (hpe2.trans (if_pos h60))
        have h60' : (60 : Int) ≤ (M.length : Int) := by omega
        have HGM := hide hgm
        clear hpe2 hgm
        go_enter Tryd.func75, Tryd.ntmps75
        go_wp2_with fail
        rw [← hW]
        refine (unhide HCK).mono ?_
        rintro e w1 ⟨rfl, hb1⟩
        have tx1 := tx0.below hb1
        obtain ⟨c0, c1, m0, m1, m2, m3, m4⟩ := (two.below hb1).cells
        go_wp2_with fail
        refine (mget_any w1 w0.heap.size bm ev M n.path tx1.map hord (by omega)).mono ?_
        rintro e w2 ⟨rfl, hb2⟩
        rw [unhide HGM]
        unfold optPl zPl
        rw [show (none : Option Pl).isSome = false from rfl]
        have tx2 := (tx1.below hb2).below ((Below.refl _ w2).alloc (Nat.le_refl _) (.cells #[.int .i64 0, .string ⟨#[]⟩, .int .i64 0, .int .i64 0, .int .i64 0, .string ⟨#[]⟩] 88))
        obtain ⟨c0, c1, m0, m1, m2, m3, m4⟩ := (((two.below hb1).below hb2).alloc (.cells #[.int .i64 0, .string ⟨#[]⟩, .int .i64 0, .int .i64 0, .int .i64 0, .string ⟨#[]⟩] 88)).cells
        go_wp2_with fail
        refine (mlen_any _ w0.heap.size bm ev M tx2.map).mono ?_
        rintro e w3 ⟨rfl, rfl⟩
        go_wp2_with fail
        go_ret
        exact ⟨by rw [unhide HPE]; rfl, .inl ⟨by rw [unhide HPE]; decide, tx2⟩⟩
      · have HPE := hide (hpe2.trans (if_neg h60))
        have h60' : ¬ ((60 : Int) ≤ (M.length : Int)) := by omega
        have HGM := hide hgm
        clear hpe2 hgm
        go_enter Tryd.func75, Tryd.ntmps75
        go_wp2_with fail
        rw [← hW]
        refine (unhide HCK).mono ?_
        rintro e w1 ⟨rfl, hb1⟩
        have tx1 := tx0.below hb1
        obtain ⟨c0, c1, m0, m1, m2, m3, m4⟩ := (two.below hb1).cells
        go_wp2_with fail
        refine (mget_any w1 w0.heap.size bm ev M n.path tx1.map hord (by omega)).mono ?_
        rintro e w2 ⟨rfl, hb2⟩
        rw [unhide HGM]
        unfold optPl zPl
        rw [show (none : Option Pl).isSome = false from rfl]
        have tx2 := (tx1.below hb2).below ((Below.refl _ w2).alloc (Nat.le_refl _) (.cells #[.int .i64 0, .string ⟨#[]⟩, .int .i64 0, .int .i64 0, .int .i64 0, .string ⟨#[]⟩] 88))
        have two2 := ((two.below hb1).below hb2).alloc (.cells #[.int .i64 0, .string ⟨#[]⟩, .int .i64 0, .int .i64 0, .int .i64 0, .string ⟨#[]⟩] 88)
        obtain ⟨c0, c1, m0, m1, m2, m3, m4⟩ := two2.cells
        go_wp2_with fail
        refine (mlen_any _ w0.heap.size bm ev M tx2.map).mono ?_
        rintro e w3 ⟨rfl, rfl⟩
        go_wp2_with fail
        refine (freeSlot_any _ w0.heap.size bm ev M tx2.map hsl (by omega)).mono ?_
        rintro e w4 ⟨s, rfl, hs60, hfree, hb4⟩
        have tx4 := tx2.below hb4
        have two4 := two2.below hb4
        have HSF := hide (show SlotFor M n s from ⟨hs60, .inr ⟨unhide HGM, hfree⟩⟩)
        obtain ⟨c0, c1, m0, m1, m2, m3, m4⟩ := two4.cells
        have hput := mput_any w4 w0.heap.size bm ev M ⟨s, n⟩ tx4.map tx4.st.size hord (by omega)
        unfold plV at hput
        dsimp only at hput
        have HPUT := hide hput
        clear hput
        go_wp2_with fail
        refine (unhide HPUT).mono ?_
        rintro e w5 ⟨ev5, rfl, hM5, st5⟩
        have hbx : ∀ k, w.heap.size ≤ k → k < w4.heap.size → w5.heap[k]? = w4.heap[k]? := fun k hk1 hk2 => st5.block k hk2 (by omega) (by omega) (fun e => by have := hevl k e; omega)
        have two5 := two4.kept (hbx _ (Nat.le_refl _) (lt_of_heap two4.b0)) (hbx _ (by omega) (lt_of_heap two4.b1))
        have tx5 := tx4.turnMap hM5 st5
        obtain ⟨q0, q1, r0, r1, r2, r3, r4⟩ := two5.cells
        have hfill := fillSlot_any w5 B bl bd bs pv lv ps false d s n tx5.sys hn hn3 hp hs60 hk hm htg hpz hdz
        unfold ndV at hfill
        have HF := hide hfill
        have HTX := hide tx5
        clear hfill tx5
        go_wp2_with fail
        refine (unhide HF).mono ?_
        rintro e w6 ⟨pv6, rfl, s6, st6⟩
        go_wp2_with fail
        go_ret
        exact ⟨by rw [unhide HPE]; rfl, .inr ⟨unhide HPE, s, pv6, ev5, unhide HSF, (unhide HTX).turnLog s6 st6⟩⟩
    | some old =>
      rw [hgm] at hpe2
      dsimp only at hpe2
      by_cases hkd : old.node.kind = n.kind
      · have HPE := hide (hpe2.trans (if_neg (by simpa using hkd)))
        have hs60 : old.slot < 60 := hsl old (List.mem_of_find?_eq_some hgm)
        have HGM := hide hgm
        have HKD := hide hkd
        clear hpe2 hgm hkd
        go_enter Tryd.func75, Tryd.ntmps75
        go_wp2_with fail
        rw [← hW]
        refine (unhide HCK).mono ?_
        rintro e w1 ⟨rfl, hb1⟩
        have tx1 := tx0.below hb1
        obtain ⟨c0, c1, m0, m1, m2, m3, m4⟩ := (two.below hb1).cells
        go_wp2_with fail
        refine (mget_any w1 w0.heap.size bm ev M n.path tx1.map hord (by omega)).mono ?_
        rintro e w2 ⟨rfl, hb2⟩
        rw [unhide HGM, show optPl (some old) = .agg #[.int .i64 (old.slot : Int), .string old.node.path, .int .i64 n.kind, .int .i64 old.node.mode, .int .i64 old.node.tag, .string old.node.data] by simp only [optPl, plV, unhide HKD]]
        rw [show (some old : Option Pl).isSome = true from rfl]
        have tx4 := (tx1.below hb2).below ((Below.refl _ w2).alloc (Nat.le_refl _) (.cells #[.int .i64 (old.slot : Int), .string old.node.path, .int .i64 n.kind, .int .i64 old.node.mode, .int .i64 old.node.tag, .string old.node.data] 88))
        have two4 := ((two.below hb1).below hb2).alloc (.cells #[.int .i64 (old.slot : Int), .string old.node.path, .int .i64 n.kind, .int .i64 old.node.mode, .int .i64 old.node.tag, .string old.node.data] 88)
        have HSF := hide (show SlotFor M n old.slot from ⟨hs60, .inl ⟨old, unhide HGM, rfl⟩⟩)
        obtain ⟨c0, c1, m0, m1, m2, m3, m4⟩ := two4.cells
        have hput := mput_any (w2.alloc (.cells #[.int .i64 (old.slot : Int), .string old.node.path, .int .i64 n.kind, .int .i64 old.node.mode, .int .i64 old.node.tag, .string old.node.data] 88)) w0.heap.size bm ev M ⟨old.slot, n⟩ tx4.map tx4.st.size hord (by omega)
        unfold plV at hput
        dsimp only at hput
        have HPUT := hide hput
        clear hput
        go_wp2_with fail
        refine (unhide HPUT).mono ?_
        rintro e w5 ⟨ev5, rfl, hM5, st5⟩
        have hbx : ∀ k, w.heap.size ≤ k → k < (w2.alloc (.cells #[.int .i64 (old.slot : Int), .string old.node.path, .int .i64 n.kind, .int .i64 old.node.mode, .int .i64 old.node.tag, .string old.node.data] 88)).heap.size → w5.heap[k]? = (w2.alloc (.cells #[.int .i64 (old.slot : Int), .string old.node.path, .int .i64 n.kind, .int .i64 old.node.mode, .int .i64 old.node.tag, .string old.node.data] 88)).heap[k]? := fun k hk1 hk2 => st5.block k hk2 (by omega) (by omega) (fun e => by have := hevl k e; omega)
        have two5 := two4.kept (hbx _ (Nat.le_refl _) (lt_of_heap two4.b0)) (hbx _ (by omega) (lt_of_heap two4.b1))
        have tx5 := tx4.turnMap hM5 st5
        obtain ⟨q0, q1, r0, r1, r2, r3, r4⟩ := two5.cells
        have hfill := fillSlot_any w5 B bl bd bs pv lv ps false d old.slot n tx5.sys hn hn3 hp hs60 hk hm htg hpz hdz
        unfold ndV at hfill
        have HF := hide hfill
        have HTX := hide tx5
        clear hfill tx5
        go_wp2_with fail
        refine (unhide HF).mono ?_
        rintro e w6 ⟨pv6, rfl, s6, st6⟩
        go_wp2_with fail
        go_ret
        exact ⟨by rw [unhide HPE]; rfl, .inr ⟨unhide HPE, old.slot, pv6, ev5, unhide HSF, (unhide HTX).turnLog s6 st6⟩⟩
      · have HPE := hide (hpe2.trans (if_pos (by simpa using hkd)))
        have hkb : (old.node.kind == n.kind) = false := by simpa using hkd
        have HGM := hide hgm
        clear hpe2 hgm hkd
        go_enter Tryd.func75, Tryd.ntmps75
        go_wp2_with fail
        rw [← hW]
        refine (unhide HCK).mono ?_
        rintro e w1 ⟨rfl, hb1⟩
        have tx1 := tx0.below hb1
        obtain ⟨c0, c1, m0, m1, m2, m3, m4⟩ := (two.below hb1).cells
        go_wp2_with fail
        refine (mget_any w1 w0.heap.size bm ev M n.path tx1.map hord (by omega)).mono ?_
        rintro e w2 ⟨rfl, hb2⟩
        rw [unhide HGM]
        unfold optPl plV
        rw [show (some old : Option Pl).isSome = true from rfl]
        have tx4 := (tx1.below hb2).below ((Below.refl _ w2).alloc (Nat.le_refl _) (.cells #[.int .i64 (old.slot : Int), .string old.node.path, .int .i64 old.node.kind, .int .i64 old.node.mode, .int .i64 old.node.tag, .string old.node.data] 88))
        have two4 := ((two.below hb1).below hb2).alloc (.cells #[.int .i64 (old.slot : Int), .string old.node.path, .int .i64 old.node.kind, .int .i64 old.node.mode, .int .i64 old.node.tag, .string old.node.data] 88)
        obtain ⟨c0, c1, m0, m1, m2, m3, m4⟩ := two4.cells
        go_wp2_with fail
        go_ret
        exact ⟨by rw [unhide HPE]; rfl, .inl ⟨by rw [unhide HPE]; decide, tx4⟩⟩
end Go.Proofs.YtcbindgpbeaebaaDoor
