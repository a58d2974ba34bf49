import Derived.Test.YtcbindgpbeaebaaInvB
import Derived.Test.YtcbindgpbeaebaaAlive
namespace Go.Proofs.Ytcbindgpbeaebaa
open Go.RowKit Go.Deep
attribute [local go_sem ↓] Go.wp_at_zero Go.wp_at_succ

/-- A new disk. -/
def Disk0 (w : World) (B bd M : Nat) : Prop := B ≤ bd ∧ M ≤ 4096 ∧ ((∃ sv S, S.length = M ∧ M ≤ 90 ∧ SAt w bd sv (.slice none 0 0) S (-1) (-1) 0) ∨ (90 < M ∧ ∃ bs, B ≤ bs ∧ DAt w bd bs (.slice none 0 0) (newDk M)))
theorem Disk0.below {w w' : World} {B bd M : Nat} (h : Disk0 w B bd M) (hb : Below w.heap.size w w') : Disk0 w' B bd M := by
  obtain ⟨h0, hM, ⟨sv, S, h1, h2, h3⟩ | ⟨h1, bs, h2, h3⟩⟩ := h
  · exact ⟨h0, hM, .inl ⟨sv, S, h1, h2, h3.below hb⟩⟩
  · exact ⟨h0, hM, .inr ⟨h1, bs, h2, h3.below hb⟩⟩
theorem Disk0.set {w : World} {B bd M : Nat} (h : Disk0 w B bd M) {k : Nat} {cs : Array Value} (hk : w.heap[k]? = some (.cells cs 32 (0, 0))) (i : Nat) (u : Value) : Disk0 (w.setCell ⟨k, i, none⟩ u) B bd M := by
  obtain ⟨h0, hM, ⟨sv, S, h1, h2, h3⟩ | ⟨h1, bs, h2, h3⟩⟩ := h
  · exact ⟨h0, hM, .inl ⟨sv, S, h1, h2, h3.setOther hk (by decide) (by decide) (by decide) i u⟩⟩
  · exact ⟨h0, hM, .inr ⟨h1, bs, h2, h3.setOther hk (by decide) (by decide) (by decide) i u⟩⟩
theorem Disk0.blocks {w : World} {B bd M : Nat} (h : Disk0 w B bd M) : Calls Try.prog 8 #[.pointer (some ⟨bd, 0, none⟩)] w fun e w' => e = .returned (.int .i64 (M : Int)) ∧ w' = w := by
  obtain ⟨h0, hM, ⟨sv, S, h1, h2, h3⟩ | ⟨h1, bs, h2, h3⟩⟩ := h
  · rw [← h1]
    exact sblocks w bd sv _ S _ _ _ h3
  · refine (dblocks_any w bd bs _ _ h3).mono ?_
    rintro e w' ⟨he, hw⟩
    have : (newDk M).safe.length = M := List.length_replicate
    rw [this] at he
    exact ⟨he, hw⟩
theorem new_all (w : World) (size : Int) : Calls Try.prog 6 #[.int .i64 size] w fun e w' => ∃ bd M, e = .returned (.pointer (some ⟨bd, 0, none⟩)) ∧ Disk0 w' w.heap.size bd M ∧ Below w.heap.size w w' := by
  by_cases h0 : size ≤ 0
  · refine (new_none w size h0).mono ?_
    rintro e w' ⟨bd, sv, he, hs, hb, hl⟩
    exact ⟨bd, 0, he, ⟨hl, by omega, .inl ⟨sv, [], rfl, by omega, hs⟩⟩, hb⟩
  · by_cases h1 : 4096 < size
    · refine (new_big w size h1).mono ?_
      rintro e w' ⟨bd, bs, he, hd, hb, l1, l2⟩
      exact ⟨bd, 4096, he, ⟨l1, Nat.le_refl _, .inr ⟨by omega, bs, l2, hd⟩⟩, hb⟩
    · refine (new_any w size (by omega) (by omega)).mono ?_
      rintro e w' ⟨bd, bs, he, hd, hb, l1, l2⟩
      by_cases h2 : size ≤ 90
      · have q := SAt.ofD hd
        exact ⟨bd, size.toNat, he, ⟨l1, by omega, .inl ⟨_, (newDk size.toNat).safe, List.length_replicate, by omega, q⟩⟩, hb⟩
      · exact ⟨bd, size.toNat, he, ⟨l1, by omega, .inr ⟨by omega, bs, l2, hd⟩⟩, hb⟩

/-- The law's own struct, ahead of the script. -/
def R0 (M : Nat) : Rf := ⟨(M : Int) - 90, [], []⟩
theorem Disk0.at {w : World} {B bd M bw : Nat} (h : Disk0 w B bd M) (hw : w.heap[bw]? = some (.cells (wcells bd (.pointer none) (R0 M) (R0 M) (.slice none 0 0) (.slice none 0 0) (.slice none 0 0) (.slice none 0 0) false false) 32 (0, 0))) (hB : B ≤ w.heap.size) (hb : B ≤ bw) : At w B bw 0 := by
  obtain ⟨h0, hM, ⟨sv, S, h1, h2, h3⟩ | ⟨h1, bs, h2, h3⟩⟩ := h
  · exact .inl ⟨bd, sv, _, S, _, _, _, _, _, _, _, _, _, ⟨h3, hw, hB, hb, h0, by omega⟩⟩
  · have hlen : (newDk M).safe.length = M := List.length_replicate
    have g : Good M (R0 M) := ⟨rfl, by simp [R0, NodupK], by simp [R0], by simp [R0], by simp [R0]⟩
    have r : RAt B w (R0 M) (.slice none 0 0) (.slice none 0 0) := ⟨World.ownsRow_nil _ _ _ _, World.ownsRow_nil _ _ _ _, by simp [R0], by simp [R0]⟩
    have i : Inv w B bw M 0 bd bs (.pointer none) (.slice none 0 0) (newDk M) (R0 M) (R0 M) (.slice none 0 0) (.slice none 0 0) (.slice none 0 0) (.slice none 0 0) false (newDk M).safe none :=
      { disk := h3, own := hw, r1 := r, r2 := r, hB := hB, bw0 := hb, bd0 := h0, bs0 := h2, lv0 := by simp [Value.ownBlock], ok := newDk_ok M hM, fl := Int.le_refl _, n := hlen, sn := hlen, late := by simp [newDk], st := ⟨rfl, by rw [rd_new, clr_zero], fun _ _ => rfl⟩, g1 := g, g2 := g, cont := fun i _ => by rw [rd_new]; rfl, two := ⟨fun _ => rfl, fun ps e => by cases e⟩, log := .inl rfl }
    exact .inr ⟨M, h1, ⟨_, _, _, _, _, _, _, _, _, _, _, _, _, _, i⟩, fun _ => ⟨_, _, _, _, _, _, _, _, _, _, _, _, _, i, newDk_well M⟩⟩

/-- The script, as it lies in memory. -/
def Deals (w : World) (B : Nat) (ao : Option Addr) (len : Nat) : Prop := ∀ i, i < len → ∃ b o k n s ko kn kc ks, ao = some ⟨b, o, none⟩ ∧ b < B ∧ w.cell? ⟨b, o + i * 4, none⟩ = some (.int .i64 k) ∧ w.cell? ⟨b, o + i * 4 + 1, none⟩ = some (.int .i64 n) ∧ w.cell? ⟨b, o + i * 4 + 2, none⟩ = some (.string s) ∧ w.cell? ⟨b, o + i * 4 + 3, none⟩ = some (.slice ko kn kc) ∧
  n ≤ 9223372036854775807 ∧ IntsAt w (.slice ko kn kc) ks ∧ ∀ b' o' m c, Value.slice ko kn kc = .slice (some ⟨b', o', none⟩) m c → 0 < m → b' < B

set_option maxRecDepth 100000 in
set_option maxHeartbeats 8000000 in
theorem logs_law (w : World) (size : Int) (ao : Option Addr) (len cap : Nat) (hlen : len ≤ 9223372036854775807) (hd : Deals w w.heap.size ao len) :
    Calls Try.prog 3 #[.int .i64 size, .slice ao len cap] w fun e w' => e = .returned (.bool true) ∧ Below w.heap.size w w' := by
  have HD := hide hd
  clear hd
  go_enter Try.func3, Try.ntmps3
  go_wp2_with fail
  refine (alive_any w).mono ?_
  rintro e w1 ⟨rfl, b1⟩
  have HB1 := hide b1
  have sz1 := b1.size
  clear b1
  go_wp2_with fail
  refine (new_all w1 size).mono ?_
  rintro e w2 ⟨bd, M, rfl, d2, b2⟩
  have hM := d2.2.1
  have HD2 := hide d2
  have HB2 := hide b2
  have sz2 := b2.size
  clear d2 b2
  go_wp2_with fail
  generalize hO : (Obj.cells #[Value.pointer (some ⟨bd, 0, none⟩), Value.pointer none, Value.int IntKind.i64 0, Value.slice none 0 0, Value.slice none 0 0, Value.int IntKind.i64 0, Value.slice none 0 0, Value.slice none 0 0, Value.bool false, Value.bool false] 32 : Obj) = O
  have hA : (w2.alloc O).heap[w2.heap.size]? = some (.cells (wcells bd (.pointer none) ⟨0, [], []⟩ ⟨0, [], []⟩ (.slice none 0 0) (.slice none 0 0) (.slice none 0 0) (.slice none 0 0) false false) 32 (0, 0)) := by
    rw [← hO]
    exact heap_alloc_new w2 _
  have HA := hide hA
  clear hA
  refine (((unhide HD2).below (Below.new w2 O)).blocks).mono ?_
  rintro e w3 ⟨rfl, hw3⟩
  have hw3 := hw3.symm
  subst hw3
  go_wp2_with fail
  refine (newLog_any (w2.alloc O) ((M : Int) - 90)).mono ?_
  rintro e w4 ⟨rfl, b4⟩
  have lA : w2.heap.size < (w2.alloc O).heap.size := by simp
  have h4 := (b4.block w2.heap.size lA).trans (unhide HA)
  have d4 := ((unhide HD2).below (Below.new w2 O)).below b4
  have bB : Below w.heap.size w w4 := ((unhide HB1).trans ((unhide HB2).mono sz1)).trans ((((Below.new w2 O).mono (by omega)).trans (b4.mono (by omega))))
  have sz4 : w2.heap.size ≤ w4.heap.size := by have := b4.size; omega
  obtain ⟨⟨x0, x1, x2, x3, x4, x5, x6, x7, x8, x9⟩, xz⟩ := wcell h4
  have e1 := heap_setCell_same w4 w2.heap.size 2 _ _ (.int .i64 ((M : Int) - 90)) h4
  have e2 := heap_setCell_same _ w2.heap.size 3 _ _ (.slice none 0 0) e1
  have e3 := heap_setCell_same _ w2.heap.size 4 _ _ (.slice none 0 0) e2
  have e4 := heap_setCell_same _ w2.heap.size 5 _ _ (.int .i64 ((M : Int) - 90)) e3
  have e5 := heap_setCell_same _ w2.heap.size 6 _ _ (.slice none 0 0) e4
  have e6 := heap_setCell_same _ w2.heap.size 7 _ _ (.slice none 0 0) e5
  have d6 := (((((d4.set h4 2 (.int .i64 ((M : Int) - 90))).set e1 3 (.slice none 0 0)).set e2 4 (.slice none 0 0)).set e3 5 (.int .i64 ((M : Int) - 90))).set e4 6 (.slice none 0 0)).set e5 7 (.slice none 0 0)
  have hq : w.heap.size ≤ w2.heap.size := by omega
  have b6 := (((((bB.setCell (p := ⟨w2.heap.size, 2, none⟩) hq (.int .i64 ((M : Int) - 90))).setCell (p := ⟨w2.heap.size, 3, none⟩) hq (.slice none 0 0)).setCell (p := ⟨w2.heap.size, 4, none⟩) hq (.slice none 0 0)).setCell (p := ⟨w2.heap.size, 5, none⟩) hq (.int .i64 ((M : Int) - 90))).setCell (p := ⟨w2.heap.size, 6, none⟩) hq (.slice none 0 0)).setCell (p := ⟨w2.heap.size, 7, none⟩) hq (.slice none 0 0)
  have d6' : Disk0 _ w.heap.size bd M := ⟨Nat.le_trans sz1 d6.1, d6.2.1, d6.2.2.elim .inl fun ⟨a, bs, b, c⟩ => .inr ⟨a, bs, Nat.le_trans sz1 b, c⟩⟩
  have HAt := hide (d6'.at (bw := w2.heap.size) (by rw [e6]; rfl) b6.size hq)
  have HB6 := hide b6
  clear e1 e2 e3 e4 e5 e6 d6 d6' b6 bB d4 h4 b4 HA HB1 HB2 HD2
  go_wp2_with fail
  go_loopw [7] (fun i wr => ∃ k : Nat, k ≤ len ∧ i = .int .i64 k ∧ At wr w.heap.size w2.heap.size k ∧ Below w.heap.size w wr) (fun i _ => len - (intOf i).toNat)
  case atStart => exact ⟨0, Nat.zero_le _, rfl, unhide HAt, unhide HB6⟩
  case round =>
    obtain ⟨k, hk, rfl, hat, hbk⟩ := hrel
    have HATK := hide hat
    have HBK := hide hbk
    clear hat hbk HAt HB6 x0 x1 x2 x3 x4 x5 x6 x7 x8 x9 xz
    by_cases hlt : k < len
    · obtain ⟨b, o, kd, n, t, ko, kn, kc, ks, rfl, hbB, c0, c1, c2, c3, hn, hik, hkl⟩ := (unhide HD) k hlt
      have y0 := ((unhide HBK).cell (p := ⟨b, o + k * 4, none⟩) hbB).trans c0
      have y1 := ((unhide HBK).cell (p := ⟨b, o + k * 4 + 1, none⟩) hbB).trans c1
      have y2 := ((unhide HBK).cell (p := ⟨b, o + k * 4 + 2, none⟩) hbB).trans c2
      have y3 := ((unhide HBK).cell (p := ⟨b, o + k * 4 + 3, none⟩) hbB).trans c3
      have i0 : (0 : Int) ≤ (k : Int) := Int.natCast_nonneg _
      have i1 : (k : Int) < (len : Int) := by omega
      have HIK := hide hik
      have HKL := hide hkl
      have HN := hide hn
      clear c0 c1 c2 c3 hik hkl hn
      go_wp2_with fail
      refine (step_at wr w.heap.size w2.heap.size k (unhide HATK) (by omega) kd n t ko kn kc ks (unhide HN) ((unhide HIK).under (unhide HBK) (unhide HKL)) (unhide HKL)).mono ?_
      rintro e w5 ⟨rfl, a5, b5⟩
      have HA5 := hide a5
      have HB5 := hide ((unhide HBK).trans b5)
      clear a5 b5 y0 y1 y2 y3
      go_wp2_with fail
      go_roundw
      case rel => exact ⟨k + 1, by omega, by go_num, unhide HA5, unhide HB5⟩
      case measure => simp [intOf]; omega
    · have hge : ¬ ((k : Int) < (len : Int)) := by omega
      go_wp2_with fail
      go_ret
      exact ⟨rfl, unhide HBK⟩
end Go.Proofs.Ytcbindgpbeaebaa
