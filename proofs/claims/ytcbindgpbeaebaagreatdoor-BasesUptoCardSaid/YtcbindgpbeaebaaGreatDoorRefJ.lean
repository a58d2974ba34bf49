import Derived.Test.YtcbindgpbeaebaaGreatDoorRefG
namespace Go.Proofs.YtcbindgpbeaebaaGreatDoor
open Go.RowKit Go.Deep
attribute [local go_sem ↓] Go.wp_at_zero Go.wp_at_succ

theorem data_empty (s : ByteArray) : (s.toList == []) = decide (s.size = 0) := by
  rw [Lib.toList_data, Lib.size_eq]
  cases s.data.toList <;> simp
/-- (isDeed, the walk) -/
def IsD (w : World) (x : Dd) : Prop := Calls Tryz.prog 120 #[ddV x] w fun e w' => e = .returned (.bool (okDeed x)) ∧ Below w.heap.size w w'

set_option maxRecDepth 100000 in
set_option maxHeartbeats 3200000 in
/-- gauzeref.isDeed -/
theorem isDeed_any (w : World) (x : Dd) (hs : x.node.path.size ≤ 4611686018427387903) :
    Calls Tryz.prog 120 #[ddV x] w fun e w' => e = .returned (.bool (okDeed x)) ∧ Below w.heap.size w w' := by
  obtain ⟨tk, path, kind, mode, tag, data⟩ := x
  dsimp only at hs
  unfold ddV
  dsimp only
  have hv := fun w => IsPath_any w path hs
  have bel : ∀ a b, Below w.heap.size w ((w.alloc a).alloc b) := fun a b => ((Below.refl _ w).alloc (Nat.le_refl _) _).alloc (by simp) _
  have HBL := hide bel
  clear bel
  obtain ⟨r, hr⟩ : ∃ r, okDeed ⟨tk, path, kind, mode, tag, data⟩ = r := ⟨_, rfl⟩
  rw [hr]
  have hon : (okPath path && (tk || (okPath path && decide (0 ≤ mode) && decide (mode ≤ 511) && decide (0 ≤ tag) && decide (tag ≤ 255) && (if kind = 1 then decide (data.size ≤ 400) else if kind = 2 then decide (data.size = 0) else false)))) = r := by rw [← hr]; simp only [okDeed, okNode]
  clear hr
  have hE := isEmpty_size data
  cases hok : okPath path with
  | false =>
    rw [hok] at hv hon
    have hr : r = false := by rw [← hon]; rfl
    subst hr
    clear hon hE hok
    go_enter Tryz.func120, Tryz.ntmps120
    go_wp2_with fail
    refine (hv _).mono ?_
    rintro e w1 ⟨rfl, rfl⟩
    go_wp2_with fail
    go_ret
    exact ⟨rfl, (unhide HBL) _ _⟩
  | true =>
    rw [hok] at hv hon
    clear hok
    cases tk with
    | true =>
      have hr : r = true := by rw [← hon]; rfl
      subst hr
      clear hon hE
      go_enter Tryz.func120, Tryz.ntmps120
      go_wp2_with fail
      refine (hv _).mono ?_
      rintro e w1 ⟨rfl, rfl⟩
      go_wp2_with fail
      go_ret
      exact ⟨rfl, (unhide HBL) _ _⟩
    | false =>
      by_cases m0 : mode < 0
      · have hr : r = false := by rw [← hon, decide_eq_false (show ¬ 0 ≤ mode by omega)]; rfl
        subst hr
        clear hon hE
        go_enter Tryz.func120, Tryz.ntmps120
        go_wp2_with fail
        refine (hv _).mono ?_
        rintro e w1 ⟨rfl, rfl⟩
        go_wp2_with fail
        go_ret
        exact ⟨rfl, (unhide HBL) _ _⟩
      by_cases m1 : 511 < mode
      · have hr : r = false := by rw [← hon, decide_eq_false (show ¬ mode ≤ 511 by omega)]; simp
        subst hr
        clear hon hE
        go_enter Tryz.func120, Tryz.ntmps120
        go_wp2_with fail
        refine (hv _).mono ?_
        rintro e w1 ⟨rfl, rfl⟩
        go_wp2_with fail
        go_ret
        exact ⟨rfl, (unhide HBL) _ _⟩
      by_cases t0 : tag < 0
      · have hr : r = false := by rw [← hon, decide_eq_false (show ¬ 0 ≤ tag by omega)]; simp
        subst hr
        clear hon hE
        go_enter Tryz.func120, Tryz.ntmps120
        go_wp2_with fail
        refine (hv _).mono ?_
        rintro e w1 ⟨rfl, rfl⟩
        go_wp2_with fail
        go_ret
        exact ⟨rfl, (unhide HBL) _ _⟩
      by_cases t1 : 255 < tag
      · have hr : r = false := by rw [← hon, decide_eq_false (show ¬ tag ≤ 255 by omega)]; simp
        subst hr
        clear hon hE
        go_enter Tryz.func120, Tryz.ntmps120
        go_wp2_with fail
        refine (hv _).mono ?_
        rintro e w1 ⟨rfl, rfl⟩
        go_wp2_with fail
        go_ret
        exact ⟨rfl, (unhide HBL) _ _⟩
      rw [decide_eq_true (show 0 ≤ mode by omega), decide_eq_true (show mode ≤ 511 by omega), decide_eq_true (show 0 ≤ tag by omega), decide_eq_true (show tag ≤ 255 by omega)] at hon
      simp only [Bool.true_and, Bool.false_or] at hon
      by_cases k1 : kind = 1
      · rw [if_pos k1] at hon
        have k1' : (kind == 1) = true := by simpa using k1
        by_cases d4 : data.size ≤ 400
        · have hr : r = true := by rw [← hon]; simpa using d4
          have d4' : decide ((data.size : Int) ≤ 400) = true := by simp; omega
          subst hr
          clear hon hE k1
          go_enter Tryz.func120, Tryz.ntmps120
          go_wp2_with fail
          refine (hv _).mono ?_
          rintro e w1 ⟨rfl, rfl⟩
          go_wp2_with fail
          go_ret
          exact ⟨rfl, (unhide HBL) _ _⟩
        · have hr : r = false := by rw [← hon]; simpa using d4
          have d4' : decide ((data.size : Int) ≤ 400) = false := by simp; omega
          have k2' : (kind == 2) = false := by rw [k1]; rfl
          subst hr
          clear hon hE k1
          go_enter Tryz.func120, Tryz.ntmps120
          go_wp2_with fail
          refine (hv _).mono ?_
          rintro e w1 ⟨rfl, rfl⟩
          go_wp2_with fail
          go_ret
          exact ⟨rfl, (unhide HBL) _ _⟩
      · rw [if_neg k1] at hon
        have k1' : (kind == 1) = false := by simpa using k1
        by_cases k2 : kind = 2
        · rw [if_pos k2] at hon
          have k2' : (kind == 2) = true := by simpa using k2
          subst hon
          rw [← hE]
          clear hE k1 k2
          go_enter Tryz.func120, Tryz.ntmps120
          go_wp2_with fail
          refine (hv _).mono ?_
          rintro e w1 ⟨rfl, rfl⟩
          go_wp2_with fail
          go_ret
          exact ⟨rfl, (unhide HBL) _ _⟩
        · rw [if_neg k2] at hon
          have k2' : (kind == 2) = false := by simpa using k2
          subst hon
          clear hE k1 k2
          go_enter Tryz.func120, Tryz.ntmps120
          go_wp2_with fail
          refine (hv _).mono ?_
          rintro e w1 ⟨rfl, rfl⟩
          go_wp2_with fail
          go_ret
          exact ⟨rfl, (unhide HBL) _ _⟩
end Go.Proofs.YtcbindgpbeaebaaGreatDoor

namespace Go.Proofs.YtcbindgpbeaebaaGreatDoor
open Go.RowKit Go.Deep
attribute [local go_sem ↓] Go.wp_at_zero Go.wp_at_succ

theorem info_Node5 : (Tryz.prog.info? 76).map (fun i => (i.zero, i.size, i.bytes)) = some (some zNdV, 5, 56) := by kernel_rfl
theorem one_cell {w : World} {b : Nat} {x : Value} {t : TypeId} (h : w.heap[b]? = some (.cells #[x] t (0, 0))) : w.cell? ⟨b, 0, none⟩ = some x ∧ w.frozen? ⟨b, 0, none⟩ = false :=
  ⟨(cell_of_row w b 0 _ _ _ h).trans rfl, frozen_of_row w b 0 _ _ h⟩

set_option maxRecDepth 100000 in
set_option maxHeartbeats 3200000 in
/-- (Base).Copy -/
theorem bCopy_any (w : World) (v : Value) (l : List Nd) (h : NAt w v l) (hl : l.length ≤ 1000000) :
    Calls Tryz.prog 84 #[.agg #[v]] w fun e w' => ∃ v', e = .returned (.agg #[v']) ∧ w'.ownsRow w.heap.size 76 5 v' l.length (rowD l) ∧ Below w.heap.size w w' := by
  obtain ⟨i0, hi0, hz0, hz1, hz2⟩ := info_parts info_Node5
  obtain ⟨ao, cap, hv⟩ := h.form
  subst hv
  obtain ⟨k0, k1, k2, ks⟩ := heap_three w (.cells #[.slice ao l.length cap] 30) (.cells #[.slice none 0 0] 30) (.cells #[.slice none 0 0] 30)
  have hS : w.ownsRow 0 76 5 (.slice ao l.length cap) l.length (rowD l) := h
  have K0 := hide k0
  have K1 := hide k1
  have K2 := hide k2
  have KS := hide ks
  clear k0 k1 k2 ks h
  go_enter Tryz.func84, Tryz.ntmps84
  have hb5 : l.length * 56 ≤ 140737488355328 := by omega
  have hml : l.length ≤ maxLen := by unfold maxLen; omega
  go_wp2_with (at_builtin; refine wpList_append_copy _ ?g1 (.tmp 5) (.tmp 7) 28 ?g2 w.heap.size 76 i0 zNdV 5 56 Tryz.underlying28 hi0 hz0 hz1 hz2 ?g3 ?g4 ?g5 (.slice ao l.length cap) l.length (rowD l) ?g6 ?g7 ?g8 ?g9 ?g10 ?g11 ?_; (case g1 => rfl); (case g2 => rfl); (case g3 => rfl); (case g4 => decide); (case g5 => rfl); (case g6 => rfl); (case g7 => exact (((hS.alloc _).alloc _).alloc _)); (case g8 => exact rowD_one _); (case g9 => exact hml); (case g10 => exact hb5); (case g11 => simp; omega); intro v4 w4 ho4 hg4; obtain ⟨ao4, cap4, rfl⟩ := ownsRow_form ho4.base0; have s4 : w.heap.size + 3 ≤ w4.heap.size := (by have := hg4.size; rw [unhide KS] at this; exact this); have b1 := (hg4.block (w.heap.size + 1) (by rw [unhide KS]; omega) (by simp)).trans (unhide K1); have b2 := (hg4.block (w.heap.size + 1 + 1) (by rw [unhide KS]; omega) (by simp)).trans (unhide K2); obtain ⟨a1, z1⟩ := one_cell b1; obtain ⟨a2, z2⟩ := one_cell b2; have n1 := ownsRow_ne ho4 b1 (by decide); have n2 := ownsRow_ne ho4 b2 (by decide); have b25 := heap_setCell_same w4 (w.heap.size + 1 + 1) 0 _ _ (.slice ao4 l.length cap4) b2; have b15 := (Below.heap_setCell w4 ⟨w.heap.size + 1 + 1, 0, none⟩ (.slice ao4 l.length cap4) (w.heap.size + 1) (by simp)).trans b1; have HO4 := hide ho4; have HG4 := hide hg4; have HN1 := hide n1; have HN2 := hide n2; obtain ⟨a15, z15⟩ := one_cell b15; clear ho4 hg4 b1 b2 n1 n2 b15 b25)
  have bel : Below w.heap.size w w4 := (((((Below.refl _ _).alloc (Nat.le_refl _) _).alloc (by simp) _).alloc (by simp; omega) _).grown (unhide HG4) (by simp; omega) (by simp))
  refine bodyPost_ret (v := .agg #[.slice ao4 l.length cap4]) (by simp [results, Tryz.results84, go_sem, *]) rfl ⟨_, rfl, ?_, ?_⟩
  · exact ownsRow_set (ownsRow_set (unhide HO4) _ (unhide HN2) _) _ (unhide HN1) _
  · exact (bel.setCell (by simp; omega) _).setCell (by simp) _
/-! (Base).Nodes -/
set_option maxRecDepth 100000 in
theorem bNodes_any (w : World) (v : Value) (l : List Nd) (h : NAt w v l) (hl : l.length ≤ 1000000) :
    Calls Tryz.prog 41 #[.agg #[v]] w fun e w' => ∃ v', e = .returned v' ∧ w'.ownsRow w.heap.size 76 5 v' l.length (rowD l) ∧ Below w.heap.size w w' := by
  obtain ⟨ao, cap, hv⟩ := h.form
  subst hv
  have hA := fun o => h.alloc o
  have HA := hide hA
  clear hA h
  go_enter Tryz.func41, Tryz.ntmps41
  go_wp2_with fail
  refine (bCopy_any _ (.slice ao l.length cap) l ((unhide HA) _) hl).mono ?_
  rintro e w1 ⟨v1, rfl, ho, hb⟩
  obtain ⟨ao1, cap1, rfl⟩ := ownsRow_form ho.base0
  have HO := hide ho
  have HB := hide hb
  clear ho hb
  have hfd : ∀ w : World, (Instr.field 30 (.agg #[.slice ao1 l.length cap1]) 0).run Tryz.prog w = .ok (.slice ao1 l.length cap1) w := fun _ => by kernel_rfl
  go_wp2_with fail
  go_ret
  refine ⟨_, rfl, ownsRow_base (unhide HO) (by simp), ?_⟩
  exact ((Below.refl _ _).alloc (Nat.le_refl _) _).trans ((unhide HB).mono (by simp))

end Go.Proofs.YtcbindgpbeaebaaGreatDoor

namespace Go.Proofs.YtcbindgpbeaebaaGreatDoor
open Go.RowKit Go.Deep
attribute [local go_sem ↓] Go.wp_at_zero Go.wp_at_succ

/-- Are two nodes the same? -/
def eqNd (a b : Nd) : Bool := a.path.toList == b.path.toList && a.kind == b.kind && a.mode == b.mode && a.tag == b.tag && a.data.toList == b.data.toList
theorem eqNd_iff (a b : Nd) : eqNd a b = true ↔ a = b := by
  obtain ⟨a0, a1, a2, a3, a4⟩ := a
  obtain ⟨b0, b1, b2, b3, b4⟩ := b
  simp only [eqNd, Bool.and_eq_true, beq_iff_eq, Nd.mk.injEq]
  constructor
  · rintro ⟨⟨⟨⟨h0, h1⟩, h2⟩, h3⟩, h4⟩
    exact ⟨bytes_ext (by rw [← Lib.toList_data, ← Lib.toList_data]; exact h0), h1, h2, h3, bytes_ext (by rw [← Lib.toList_data, ← Lib.toList_data]; exact h4)⟩
  · rintro ⟨rfl, rfl, rfl, rfl, rfl⟩
    exact ⟨⟨⟨⟨rfl, rfl⟩, rfl⟩, rfl⟩, rfl⟩
def sameN (l m : List Nd) : Bool := decide (l.length = m.length) && (l.zip m).all fun p => eqNd p.1 p.2
theorem sameN_iff (l m : List Nd) : sameN l m = true ↔ l = m := by
  unfold sameN
  simp only [Bool.and_eq_true, decide_eq_true_eq]
  constructor
  · rintro ⟨hl, ha⟩
    apply List.ext_getElem hl
    intro i h1 h2
    have := List.all_eq_true.1 ha (l[i], m[i]) (by
      rw [List.mem_iff_getElem]
      exact ⟨i, by rw [List.length_zip]; omega, by rw [List.getElem_zip]⟩)
    exact (eqNd_iff _ _).1 this
  · rintro rfl
    refine ⟨rfl, List.all_eq_true.2 ?_⟩
    rintro ⟨a, b⟩ hab
    have : a = b := by
      rw [List.mem_iff_getElem] at hab
      obtain ⟨i, h1, h2⟩ := hab
      rw [List.getElem_zip] at h2
      exact (Prod.mk.inj h2).1.symm.trans (Prod.mk.inj h2).2
    exact (eqNd_iff _ _).2 this

set_option maxRecDepth 100000 in
set_option maxHeartbeats 3200000 in
/-- gauzeref.SameNodes -/
theorem sameNodes_any (w : World) (v u : Value) (l m : List Nd) (h : NAt w v l) (k' : NAt w u m) (hl : l.length ≤ 1000000) (_hm : m.length ≤ 1000000) :
    Calls Tryz.prog 40 #[v, u] w fun e w' => e = .returned (.bool (sameN l m)) ∧ Below w.heap.size w w' := by
  obtain ⟨ao, cap, hv⟩ := h.form
  subst hv
  obtain ⟨bo, cup, hu⟩ := k'.form
  subst hu
  by_cases hne : l.length = m.length
  · have hbe : ((l.length : Int) != (m.length : Int)) = false := by simp; omega
    go_enter Tryz.func40, Tryz.ntmps40
    go_wp2_with fail
    go_loopw [5] (fun i wr => Below w.heap.size w wr ∧ ∃ k : Nat, k ≤ l.length ∧ i = .int .i64 k ∧ ∀ j a b, j < k → l[j]? = some a → m[j]? = some b → a = b) (fun i _ => l.length - (intOf i).toNat)
    case atStart => exact ⟨Below.refl _ _, 0, Nat.zero_le _, rfl, fun j a b hj _ _ => by omega⟩
    case round =>
      obtain ⟨hb, k, hk, rfl, hno⟩ := hrel
      have HN := hide hno
      clear hno
      by_cases hlt : k < l.length
      · obtain ⟨p, hp⟩ : ∃ p, l[k]? = some p := ⟨l[k], List.getElem?_eq_getElem hlt⟩
        obtain ⟨q, hq⟩ : ∃ q, m[k]? = some q := ⟨m[k]'(by omega), List.getElem?_eq_getElem (by omega)⟩
        obtain ⟨g, capx, he, ⟨d0, d1, d2, d3, d4⟩, lg⟩ := (h.below hb).at k p hp
        obtain ⟨g', capx', he', ⟨f0, f1, f2, f3, f4⟩, lg'⟩ := (k'.below hb).at k q hq
        have hao : ao = some ⟨g, 0, none⟩ := by
          simp only [Value.slice.injEq] at he
          exact he.1
        have hbo : bo = some ⟨g', 0, none⟩ := by
          simp only [Value.slice.injEq] at he'
          exact he'.1
        subst hao hbo
        clear he he'
        have i0 : (0 : Int) ≤ (k : Int) := Int.natCast_nonneg _
        have i1 : (k : Int) < (l.length : Int) := by omega
        have i2 : (k : Int) < (m.length : Int) := by omega
        have HB := hide hb
        clear hb
        have hne2 : p ≠ q → sameN l m = false := fun hpq => by
          cases hs : sameN l m with
          | false => rfl
          | true =>
            rw [(sameN_iff l m).1 hs, hq] at hp
            exact absurd (Option.some.inj hp).symm hpq
        by_cases e0 : p.path.toList = q.path.toList
        case neg =>
          have HS := hide (hne2 fun e => e0 (by rw [e]))
          clear hp hq hne2
          go_wp2_with fail
          go_region
          go_wp2_with fail
          go_ret
          exact ⟨by rw [unhide HS]; rfl, (unhide HB).drew⟩
        by_cases e1 : p.kind = q.kind
        case neg =>
          have HS := hide (hne2 fun e => e1 (by rw [e]))
          clear hp hq hne2
          go_wp2_with fail
          go_region
          go_wp2_with fail
          go_ret
          exact ⟨by rw [unhide HS]; rfl, (unhide HB).drew⟩
        by_cases e2 : p.mode = q.mode
        case neg =>
          have HS := hide (hne2 fun e => e2 (by rw [e]))
          clear hp hq hne2
          go_wp2_with fail
          go_region
          go_wp2_with fail
          go_ret
          exact ⟨by rw [unhide HS]; rfl, (unhide HB).drew⟩
        by_cases e3 : p.tag = q.tag
        case neg =>
          have HS := hide (hne2 fun e => e3 (by rw [e]))
          clear hp hq hne2
          go_wp2_with fail
          go_region
          go_wp2_with fail
          go_ret
          exact ⟨by rw [unhide HS]; rfl, (unhide HB).drew⟩
        by_cases e4 : p.data.toList = q.data.toList
        case neg =>
          have HS := hide (hne2 fun e => e4 (by rw [e]))
          clear hp hq hne2
          go_wp2_with fail
          go_region
          go_wp2_with fail
          go_ret
          exact ⟨by rw [unhide HS]; rfl, (unhide HB).drew⟩
        have hpq : p = q := (eqNd_iff p q).1 (by simp [eqNd, e0, e1, e2, e3, e4])
        have HNX := hide (show ∀ j a b, j < k + 1 → l[j]? = some a → m[j]? = some b → a = b from fun j a b hj ha hb => by
          by_cases hjk : j = k
          · subst hjk
            rw [hp] at ha
            rw [hq] at hb
            cases ha
            cases hb
            exact hpq
          · exact (unhide HN) j a b (by omega) ha hb)
        clear hp hq hne2 hpq
        go_wp2_with fail
        go_region
        go_wp2_with fail
        go_roundw
        case rel => exact ⟨(unhide HB).drew, k + 1, by omega, by go_num, unhide HNX⟩
        case measure => simp [intOf]; omega
      · have HS := hide (show sameN l m = true from (sameN_iff l m).2 (by
          apply List.ext_getElem hne
          intro i h1 h2
          exact (unhide HN) i _ _ (by omega) (List.getElem?_eq_getElem h1) (List.getElem?_eq_getElem h2)))
        have HB := hide hb
        clear hb
        go_wp2_with fail
        go_ret
        exact ⟨by rw [unhide HS]; rfl, unhide HB⟩
  · have hbe : ((l.length : Int) != (m.length : Int)) = true := by simp; omega
    have HS := hide (show sameN l m = false by unfold sameN; rw [decide_eq_false hne]; rfl)
    go_enter Tryz.func40, Tryz.ntmps40
    go_wp2_with fail
    go_ret
    exact ⟨by rw [unhide HS]; rfl, Below.refl _ _⟩

/-- What the document's Read answers. -/
def rRead (q : ByteArray) (l : List Nd) : Value := if okPath q = true then (match findN l q with
  | some n => .tuple #[ndV n, .int .i64 0]
  | none => .tuple #[ndV zNd, .int .i64 4]) else .tuple #[ndV zNd, .int .i64 1]
end Go.Proofs.YtcbindgpbeaebaaGreatDoor

namespace Go.Proofs.YtcbindgpbeaebaaGreatDoor
open Go.RowKit Go.Deep
attribute [local go_sem ↓] Go.wp_at_zero Go.wp_at_succ

set_option maxRecDepth 100000 in
set_option maxHeartbeats 3200000 in
/-- (Base).Read -/
theorem bRead_any (w : World) (v : Value) (l : List Nd) (q : ByteArray) (h : NAt w v l) (hl : l.length ≤ 1000000) (hq : q.size ≤ 4611686018427387903) :
    Calls Tryz.prog 43 #[.agg #[v], .string q] w fun e w' => e = .returned (rRead q l) ∧ Below w.heap.size w w' := by
  obtain ⟨ao, cap, hv⟩ := h.form
  subst hv
  obtain ⟨k0, k1, ks⟩ := heap_pair w (.cells #[.slice ao l.length cap] 30) (.cells #[.string ⟨#[]⟩, .int .i64 0, .int .i64 0, .int .i64 0, .string ⟨#[]⟩] 76)
  obtain ⟨W, hW⟩ : ∃ W, W = (w.alloc (.cells #[.slice ao l.length cap] 30)).alloc (.cells #[.string ⟨#[]⟩, .int .i64 0, .int .i64 0, .int .i64 0, .string ⟨#[]⟩] 76) := ⟨_, rfl⟩
  rw [← hW] at k0 k1 ks
  have hA : NAt W (.slice ao l.length cap) l := by rw [hW]; exact (h.alloc _).alloc _
  have hB : Below w.heap.size w W := by rw [hW]; exact ((Below.refl _ _).alloc (Nat.le_refl _) _).alloc (by simp) _
  have hP := IsPath_any W q hq
  have hF := bfind_any W (.slice ao l.length cap) l q hA hl
  obtain ⟨c0, _⟩ := one_cell k0
  have kk : ∀ o, (W.alloc o).heap[w.heap.size + 1]? = some (.cells #[.string ⟨#[]⟩, .int .i64 0, .int .i64 0, .int .i64 0, .string ⟨#[]⟩] 76 (0, 0)) := fun o => (Below.heap_alloc _ _ _ (by omega)).trans k1
  have k0' : ∀ o, (W.alloc o).heap[w.heap.size]? = some (.cells #[.slice ao l.length cap] 30 (0, 0)) := fun o => (Below.heap_alloc _ _ _ (by omega)).trans k0
  have hA' : ∀ o, NAt (W.alloc o) (.slice ao l.length cap) l := fun o => hA.alloc o
  have HK := hide kk
  have HK0 := hide k0'
  have HA := hide hA'
  have HB := hide hB
  clear kk k0 k0' k1 hA hA' hB
  rcases findI_cases l q with ⟨hi, hn⟩ | ⟨i, n, hi, hn, hat, hlt⟩
  · rw [hi] at hF
    cases hok : okPath q
    · rw [hok] at hP
      have HR := hide (show rRead q l = .tuple #[ndV zNd, .int .i64 1] by unfold rRead; rw [hok]; rfl)
      clear hok hi hn
      go_enter Tryz.func43, Tryz.ntmps43
      go_wp2_with fail
      rw [← hW]
      clear hW
      refine hP.mono ?_
      rintro e w1 ⟨rfl, hw1⟩
      have hw1 := hw1.symm
      subst hw1
      go_wp2_with fail
      refine hF.mono ?_
      rintro e w2 ⟨rfl, o, hw2⟩
      have hk2 := (unhide HK) o
      have hk0 := (unhide HK0) o
      have ha2 := (unhide HA) o
      have hb2 := (unhide HB).alloc (by omega) o
      rw [← hw2] at hk2 hk0 ha2 hb2
      clear hw2
      obtain ⟨d0, d1, d2, d3, d4⟩ := five_cells hk2
      obtain ⟨f0, f1, f2, f3, f4⟩ := five_frozen hk2
      obtain ⟨x0, _⟩ := one_cell hk0
      have HB2 := hide hb2
      clear hk2 hk0 hb2
      go_wp2_with fail
      refine bodyPost_ret (v := .tuple #[ndV zNd, .int .i64 1]) ?_ rfl ⟨by rw [unhide HR], ?_⟩
      · simp [results, Tryz.f43, go_sem, ndV, zNd, d0, d1, d2, d3, d4]
      exact (((((unhide HB2).setCell (by simp) _).setCell (by simp) _).setCell (by simp) _).setCell (by simp) _).setCell (by simp) _
    · rw [hok] at hP
      have HR := hide (show rRead q l = .tuple #[ndV zNd, .int .i64 4] by unfold rRead; rw [hok, hn]; rfl)
      clear hok hi hn
      go_enter Tryz.func43, Tryz.ntmps43
      go_wp2_with fail
      rw [← hW]
      clear hW
      refine hP.mono ?_
      rintro e w1 ⟨rfl, hw1⟩
      have hw1 := hw1.symm
      subst hw1
      go_wp2_with fail
      refine hF.mono ?_
      rintro e w2 ⟨rfl, o, hw2⟩
      have hk2 := (unhide HK) o
      have hk0 := (unhide HK0) o
      have ha2 := (unhide HA) o
      have hb2 := (unhide HB).alloc (by omega) o
      rw [← hw2] at hk2 hk0 ha2 hb2
      clear hw2
      obtain ⟨d0, d1, d2, d3, d4⟩ := five_cells hk2
      obtain ⟨f0, f1, f2, f3, f4⟩ := five_frozen hk2
      obtain ⟨x0, _⟩ := one_cell hk0
      have HB2 := hide hb2
      clear hk2 hk0 hb2
      go_wp2_with fail
      refine bodyPost_ret (v := .tuple #[ndV zNd, .int .i64 4]) ?_ rfl ⟨by rw [unhide HR], ?_⟩
      · simp [results, Tryz.f43, go_sem, ndV, zNd, d0, d1, d2, d3, d4]
      exact (((((unhide HB2).setCell (by simp) _).setCell (by simp) _).setCell (by simp) _).setCell (by simp) _).setCell (by simp) _
  · rw [hi] at hF
    have i0 : (0 : Int) ≤ (i : Int) := Int.natCast_nonneg _
    have i1 : (i : Int) < (l.length : Int) := by omega
    cases hok : okPath q
    · rw [hok] at hP
      have HR := hide (show rRead q l = .tuple #[ndV zNd, .int .i64 1] by unfold rRead; rw [hok]; rfl)
      clear hok hi hn
      go_enter Tryz.func43, Tryz.ntmps43
      go_wp2_with fail
      rw [← hW]
      clear hW
      refine hP.mono ?_
      rintro e w1 ⟨rfl, hw1⟩
      have hw1 := hw1.symm
      subst hw1
      go_wp2_with fail
      refine hF.mono ?_
      rintro e w2 ⟨rfl, o, hw2⟩
      have hk2 := (unhide HK) o
      have hk0 := (unhide HK0) o
      have ha2 := (unhide HA) o
      have hb2 := (unhide HB).alloc (by omega) o
      rw [← hw2] at hk2 hk0 ha2 hb2
      clear hw2
      obtain ⟨d0, d1, d2, d3, d4⟩ := five_cells hk2
      obtain ⟨f0, f1, f2, f3, f4⟩ := five_frozen hk2
      obtain ⟨x0, _⟩ := one_cell hk0
      have HB2 := hide hb2
      clear hk2 hk0 hb2
      go_wp2_with fail
      refine bodyPost_ret (v := .tuple #[ndV zNd, .int .i64 1]) ?_ rfl ⟨by rw [unhide HR], ?_⟩
      · simp [results, Tryz.f43, go_sem, ndV, zNd, d0, d1, d2, d3, d4]
      exact (((((unhide HB2).setCell (by simp) _).setCell (by simp) _).setCell (by simp) _).setCell (by simp) _).setCell (by simp) _
    · rw [hok] at hP
      have HR := hide (show rRead q l = .tuple #[ndV n, .int .i64 0] by unfold rRead; rw [hok, hn]; rfl)
      have nlt : ¬ ((i : Int) < 0) := by omega
      clear hok hi hn
      have HAT := hide hat
      clear hat
      go_enter Tryz.func43, Tryz.ntmps43
      go_wp2_with fail
      rw [← hW]
      clear hW
      refine hP.mono ?_
      rintro e w1 ⟨rfl, hw1⟩
      have hw1 := hw1.symm
      subst hw1
      go_wp2_with fail
      refine hF.mono ?_
      rintro e w2 ⟨rfl, o, hw2⟩
      have hk2 := (unhide HK) o
      have hk0 := (unhide HK0) o
      have ha2 := (unhide HA) o
      have hb2 := (unhide HB).alloc (by omega) o
      rw [← hw2] at hk2 hk0 ha2 hb2
      clear hw2
      obtain ⟨d0, d1, d2, d3, d4⟩ := five_cells hk2
      obtain ⟨f0, f1, f2, f3, f4⟩ := five_frozen hk2
      obtain ⟨x0, _⟩ := one_cell hk0
      have HB2 := hide hb2
      clear hk2 hk0 hb2
      obtain ⟨g, capx, he, ⟨y0, y1, y2, y3, y4⟩, lg⟩ := ha2.at i n (unhide HAT)
      have hao : ao = some ⟨g, 0, none⟩ := by
        simp only [Value.slice.injEq] at he
        exact he.1
      subst hao
      clear he
      go_wp2_with fail
      refine bodyPost_ret (v := .tuple #[ndV n, .int .i64 0]) ?_ rfl ⟨by rw [unhide HR], ?_⟩
      · simp [results, Tryz.f43, go_sem, ndV, d0, d1, d2, d3, d4]
      exact (((((unhide HB2).setCell (by simp) _).setCell (by simp) _).setCell (by simp) _).setCell (by simp) _).setCell (by simp) _
end Go.Proofs.YtcbindgpbeaebaaGreatDoor
