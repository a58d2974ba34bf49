import Derived.Test.YtcbindgpbeaebaaGreatDoorBooA
import Derived.Deep.QuietTactic
import Derived.Laws.MakeOwn
namespace Go.Proofs.YtcbindgpbeaebaaGreatDoor
open Go.RowKit Go.Deep
attribute [local go_sem ↓] Go.wp_at_zero Go.wp_at_succ

/-- The mark that the owner of a list writes into it. -/
def mkNd (k : Nat) : Nd := ⟨⟨#[126]⟩, 0, -1 - (k : Int), 0, ⟨#[]⟩⟩
/-- A list that reads as its owner left it. -/
def Mk (w : World) (v : Value) (k : Nat) : Prop := ∃ ao n cap, v = .slice ao n cap ∧ n ≤ 100 ∧
  (0 < n → ∃ g cur, ao = some ⟨g, 0, none⟩ ∧ w.heap[g]? = some (.cells cur 76 (0, 0)) ∧ ∀ i, i < n → ∀ j y, (ndC (mkNd k))[j]? = some y → cur[i * 5 + j]? = some y)
theorem Mk.kept {w w' : World} {v : Value} {k : Nat} (h : Mk w v k) (hk : ∀ (g : Nat) (cur : Array Value), w.heap[g]? = some (.cells cur 76 (0, 0)) → w'.heap[g]? = w.heap[g]?) : Mk w' v k := by
  obtain ⟨ao, n, cap, hv, hn, h⟩ := h
  refine ⟨ao, n, cap, hv, hn, fun h0 => ?_⟩
  obtain ⟨g, cur, h1, h2, h3⟩ := h h0
  exact ⟨g, cur, h1, (hk g cur h2).trans h2, h3⟩
theorem Mk.at {w : World} {ao : Option Addr} {n cap k : Nat} (h : Mk w (.slice ao n cap) k) (i : Nat) (hi : i < n) : ∃ g, ao = some ⟨g, 0, none⟩ ∧ g < w.heap.size ∧ At5 w g i (mkNd k) := by
  obtain ⟨ao', n', cap', hv, _, h⟩ := h
  simp only [Value.slice.injEq] at hv
  obtain ⟨rfl, rfl, rfl⟩ := hv
  obtain ⟨g, cur, h1, h2, h3⟩ := h (by omega)
  have hj : ∀ j y, (ndC (mkNd k))[j]? = some y → w.cell? ⟨g, i * 5 + j, none⟩ = some y := fun j y hy => by
    rw [cell_of_row w g _ _ _ _ h2]; exact h3 i hi j y hy
  exact ⟨g, h1, lt_of_heap h2, ⟨hj 0 _ rfl, hj 1 _ rfl, hj 2 _ rfl, hj 3 _ rfl, hj 4 _ rfl⟩⟩
/-- The lists that came out, in memory. -/
structure LsAt (w : World) (B : Nat) (lsv : Value) (X : List Value) : Prop where
  outer : w.ownsRow B 28 1 lsv X.length X
  inner : ∀ i v, X[i]? = some v → Mk w v (i / 4)
  four : X.length % 4 = 0
  len : X.length ≤ 100000000
  low : ∀ (k : Nat) (u : Value), X[k]? = some u → ∀ g, u.ownBlock = some g → g < w.heap.size
theorem LsAt.kept {w w' : World} {B : Nat} {lsv : Value} {X : List Value} (h : LsAt w B lsv X) (hs : w.heap.size ≤ w'.heap.size) (hk : ∀ (g : Nat) (cur : Array Value) (t : TypeId), w.heap[g]? = some (.cells cur t (0, 0)) → (t = 76 ∨ t = 28) → w'.heap[g]? = w.heap[g]?) : LsAt w' B lsv X := by
  refine ⟨ownsRow_kept h.outer fun g hg => ?_, fun i v hv => (h.inner i v hv).kept fun g cur hc => hk g cur _ hc (.inl rfl), h.four, h.len, fun k u hu g hg => Nat.lt_of_lt_of_le (h.low k u hu g hg) hs⟩
  rcases h.outer.2 with ⟨e, _⟩ | ⟨g', c, cur, e, _, hh, _⟩
  · rw [e] at hg; cases hg
  · rw [e] at hg
    have : g' = g := by simpa [Value.ownBlock] using hg
    subst this
    exact hk g' cur _ hh (.inr rfl)
theorem LsAt.below {w w' : World} {B : Nat} {lsv : Value} {X : List Value} (h : LsAt w B lsv X) (hb : Below w.heap.size w w') : LsAt w' B lsv X := h.kept hb.size fun g _ _ hc _ => hb.block g (lt_of_heap hc)
theorem LsAt.at {w : World} {B : Nat} {ao : Option Addr} {cap : Nat} {X : List Value} (h : LsAt w B (.slice ao X.length cap) X) (i : Nat) (v : Value) (hi : X[i]? = some v) : ∃ g, ao = some ⟨g, 0, none⟩ ∧ w.cell? ⟨g, i, none⟩ = some v := by
  have hl := (List.getElem?_eq_some_iff.1 hi).1
  obtain ⟨g, cap', hv, _, hg⟩ := h.outer.form (by omega)
  simp only [Value.slice.injEq] at hv
  have := h.outer.cells (g := g) (by simp [Value.ownBlock, hv.1]) i v hi
  rw [addr0] at this
  exact ⟨g, hv.1, this⟩

set_option maxRecDepth 100000 in
set_option maxHeartbeats 3200000 in
/-- (*bases).looks -/
theorem looks_any (w : World) (B bw : Nat) (lsv : Value) (X : List Value) (hc : w.cell? ⟨bw, 6, none⟩ = some lsv) (hlt : bw < w.heap.size) (h : LsAt w B lsv X) :
    Calls Tryz.prog 14 #[.pointer (some ⟨bw, 0, none⟩)] w fun e w' => e = .returned (.bool true) ∧ Below w.heap.size w w' := by
  obtain ⟨ao, cap, hv⟩ := row_form h.outer
  subst hv
  have hlen := h.len
  go_enter Tryz.func14, Tryz.ntmps14
  go_wp2_with fail
  go_loopw [3] (fun i wr => Below w.heap.size w wr ∧ ∃ k : Nat, k ≤ X.length ∧ i = .int .i64 k) (fun i _ => X.length - (intOf i).toNat)
  case atStart => exact ⟨Below.refl _ _, 0, Nat.zero_le _, rfl⟩
  case round =>
    obtain ⟨hb, k, hk, rfl⟩ := hrel
    have c6 := (hb.cell (p := ⟨bw, 6, none⟩) hlt).trans hc
    by_cases hkl : k < X.length
    · obtain ⟨v, hv⟩ : ∃ v, X[k]? = some v := ⟨X[k], List.getElem?_eq_getElem hkl⟩
      obtain ⟨g, rfl, cg⟩ := (h.below hb).at k v hv
      have hmk := (h.below hb).inner k v hv
      obtain ⟨mo, mn, mcap, rfl, hmn, _⟩ := id hmk
      have k0 : (0 : Int) ≤ (k : Int) := Int.natCast_nonneg _
      have k1 : (k : Int) < (X.length : Int) := by omega
      have hbs := hb.size
      have hdiv : (mkNd (k / 4)).mode = -1 - (k : Int) / 4 := by simp only [mkNd]; omega
      have HMK := hide hmk
      clear hmk
      have HDIV := hide hdiv
      clear hdiv
      go_wp2_with fail
      go_loopw [5] (fun i wx => Below w.heap.size w wx ∧ wx.heap[wr.heap.size]? = some (.cells #[.string ⟨#[126]⟩, .int .i64 0, .int .i64 (-1 - (k : Int) / 4), .int .i64 0, .string ⟨#[]⟩] 76 (0, 0)) ∧ ∃ j : Nat, j ≤ mn ∧ i = .int .i64 j) (fun i _ => mn - (intOf i).toNat)
      case atStart => exact ⟨hb.alloc hbs _, heap_alloc_new wr _, 0, Nat.zero_le _, rfl⟩
      case round =>
        obtain ⟨hbx, hbm, j, hj, rfl⟩ := hrel
        clear c6 cg
        have c6 := (hbx.cell (p := ⟨bw, 6, none⟩) hlt).trans hc
        obtain ⟨g', hg', cg⟩ := (h.below hbx).at k _ hv
        have hgg : g = g' := by simpa using hg'
        subst hgg
        obtain ⟨m0, m1, m2, m3, m4⟩ := five_cells hbm
        have hsx := hbx.size
        by_cases hjn : j < mn
        · obtain ⟨g2, rfl, lg2, a0, a1, a2, a3, a4⟩ := ((h.below hbx).inner k _ hv).at j hjn
          rw [unhide HDIV] at a2
          simp only [mkNd] at a0 a1 a3 a4
          have j0 : (0 : Int) ≤ (j : Int) := Int.natCast_nonneg _
          have j1 : (j : Int) < (mn : Int) := by omega
          have HBX := hide hbx
          have HBM := hide hbm
          clear hbx hbm hg'
          go_wp2_with fail
          go_quiet (fail)
          go_wp2_with fail
          go_roundw
          case rel =>
            have b := unhide HBX
            exact ⟨⟨b.os, b.tape, b.output, b.size, b.block⟩, unhide HBM, j + 1, by omega, by go_num⟩
          case measure => simp [intOf]; omega
        · have j1 : ¬ ((j : Int) < (mn : Int)) := by omega
          have HBX := hide hbx
          clear hbx hbm
          go_wp2_with fail
          go_roundw
          case rel => exact ⟨unhide HBX, k + 1, by omega, by go_num⟩
          case measure => simp [intOf]; omega
    · have k1 : ¬ ((k : Int) < (X.length : Int)) := by omega
      go_wp2_with fail
      go_ret
      exact ⟨rfl, hb⟩
end Go.Proofs.YtcbindgpbeaebaaGreatDoor

namespace Go.Proofs.YtcbindgpbeaebaaGreatDoor
open Go.RowKit Go.Deep
attribute [local go_sem ↓] Go.wp_at_zero Go.wp_at_succ

/-- The cells of the law's own struct. -/
def bcells (bd : Nat) (xv bv ov : Value) (tw br : Bool) (lsv : Value) : Array Value :=
  #[.pointer (some ⟨bd, 0, none⟩), xv, bv, ov, .bool tw, .bool br, lsv]
theorem bcell {w : World} {bw bd : Nat} {xv bv ov : Value} {tw br : Bool} {lsv : Value} (h : w.heap[bw]? = some (.cells (bcells bd xv bv ov tw br lsv) 33 (0, 0))) :
    (w.cell? ⟨bw, 0, none⟩ = some (.pointer (some ⟨bd, 0, none⟩)) ∧ w.cell? ⟨bw, 1, none⟩ = some xv ∧ w.cell? ⟨bw, 2, none⟩ = some bv ∧ w.cell? ⟨bw, 3, none⟩ = some ov ∧ w.cell? ⟨bw, 4, none⟩ = some (.bool tw) ∧ w.cell? ⟨bw, 5, none⟩ = some (.bool br) ∧ w.cell? ⟨bw, 6, none⟩ = some lsv) ∧ ∀ i, w.frozen? ⟨bw, i, none⟩ = false := by
  have c := fun i => cell_of_row w bw i _ _ _ h
  exact ⟨⟨c 0, c 1, c 2, c 3, c 4, c 5, c 6⟩, fun i => frozen_of_row w bw i _ _ h⟩
theorem Mk.pre {w w' : World} {ao : Option Addr} {m cap k N : Nat} {gv : Value} (h : Mk w (.slice ao m cap) k) (hm : m ≤ N) (hg : w.grownBy w' gv.ownBlock) (hp : KeepsPre w w' 76 5 N gv) : Mk w' (.slice ao m cap) k := by
  obtain ⟨ao', n', cap', hv, hn, h⟩ := h
  simp only [Value.slice.injEq] at hv
  obtain ⟨rfl, rfl, rfl⟩ := hv
  refine ⟨ao, m, cap, rfl, hn, fun h0 => ?_⟩
  obtain ⟨g, cur, h1, h2, h3⟩ := h h0
  by_cases hgv : gv.ownBlock = some g
  · obtain ⟨cur', h4, h5, h6⟩ := hp g cur hgv h2
    refine ⟨g, cur', h1, h4, fun i hi j y hy => ?_⟩
    have hj : j < 5 := by
      have := (List.getElem?_eq_some_iff.1 hy).1
      simpa [ndC] using this
    have h7 := h3 i hi j y hy
    have e1 : cur.toList[i * 5 + j]? = cur'.toList[i * 5 + j]? := by
      have ht := congrArg (fun l : List Value => l[i * 5 + j]?) h6
      simp only [List.getElem?_take] at ht
      rw [if_pos (by omega), if_pos (by omega)] at ht
      exact ht.symm
    rw [Array.getElem?_toList, Array.getElem?_toList] at e1
    rw [← e1]; exact h7
  · exact ⟨g, cur, h1, (hg.block g (lt_of_heap h2) (fun e => hgv e.symm)).trans h2, h3⟩
/-- A row of marks is a list that reads as its owner left it. -/
theorem Mk.ofRow {w : World} {C : Nat} {v : Value} {m k : Nat} (h : w.ownsRow C 76 5 v m (rowD (List.replicate m (mkNd k)))) (hm : m ≤ 100) : Mk w v k := by
  rcases h.2 with ⟨rfl, rfl⟩ | ⟨g, cap, cur, rfl, _, hg, _, _, _, ht⟩
  · exact ⟨none, 0, 0, rfl, by omega, fun h => by omega⟩
  · refine ⟨_, m, cap, rfl, hm, fun _ => ⟨g, cur, rfl, hg, fun i hi j y hy => ?_⟩⟩
    have hj : j < 5 := by
      have := (List.getElem?_eq_some_iff.1 hy).1
      simpa [ndC] using this
    have h1 := rowD_at (List.replicate m (mkNd k)) i j (mkNd k) (by rw [List.getElem?_replicate, if_pos hi]) hj
    rw [hy, ← ht, List.getElem?_take, if_pos (by omega)] at h1
    rw [← Array.getElem?_toList]; exact h1
theorem rowD_end {l : List Nd} {p : Nd} : rowD (l ++ [p]) = rowD l ++ ndC p := by simp [rowD]
theorem rowD_rep (m k : Nat) : rowD (List.replicate m (mkNd k)) ++ ndC (mkNd k) = rowD (List.replicate (m + 1) (mkNd k)) := by
  rw [← rowD_end, List.replicate_succ']

theorem wpList_append_at {P : Program} {ops : Array Oper} {rest : List Oper} {o : Oper} {a : Act} {w : World} {Q : Exit → Act → World → Prop} (hg : o.guard = none) (d s : Operand) (t : TypeId)
    (ho : o.op = .call { callee := .builtin .append, args := #[d, s], argTypes := #[t, t] })
    (base : Nat) (e : TypeId) (i : TypeInfo) (z : Value) (size bytes : Nat) (ht : P.underlying t = some (.slice e)) (hi : P.info? e = some i) (hz : i.zero = some z)
    (hsize : i.size = size) (hby : i.bytes = bytes) (hzs : z.cells.size = size) (hsz : 0 < size)
    (v : Value) (n : Nat) (xs : List Value) (hd : a.eval d = v) (hown : w.ownsRow base e size v n xs) (ad : Addr) (m c : Nat) (ys : List Value) (hs : a.eval s = .slice (some ad) m c) (hl : ys.length = m * size)
    (hsrc : ∀ j u, ys[j]? = some u → w.cell? (ad.add j) = some u) (h1 : ∀ u ∈ ys, u.oneCell' = true)
    (h63 : n + m ≤ maxLen) (hbytes : (n + m) * bytes ≤ 140737488355328) (hbase : base ≤ w.heap.size)
    (h : ∀ v' w', w'.ownsRow base e size v' (n + m) (xs ++ ys) → w.grownBy w' v.ownBlock → KeepsPre w w' e size n v → (v'.ownBlock = v.ownBlock ∨ v'.ownBlock = some w.heap.size) → wpList P ops Q rest (a.put o.dst v') w') :
    wpList P ops Q (o :: rest) a w := by
  obtain ⟨v', w', hr, h2, h3, h4⟩ := run_append_from (P := P) w base t o.type e i z size bytes ht hi hz hsize hby hzs hsz v n xs hown (.slice (some ad) m c) m ys hl (.inr ⟨ad, c, rfl, hsrc⟩) h1 h63 hbytes hbase
  obtain ⟨v'', w'', hr', _, _, _, h5⟩ := run_append_own_at (P := P) w base t o.type e i z size bytes ht hi hz hsize hby hzs hsz v n xs hown ad m c ys hl hsrc h1 h63 hbytes hbase
  rw [hr] at hr'
  simp only [Result.ok.injEq] at hr'
  obtain ⟨rfl, rfl⟩ := hr'
  exact wpList_plain hg fun _ hK => Lib.wp_append_run w d s t t ho v (.slice (some ad) m c) hd hs _ _ hr (hK _ _ (h v' w' h2 h3 h4 h5))
theorem own_blk {w : World} {b : Nat} {e : TypeId} {size : Nat} {v : Value} {n : Nat} {xs : List Value} (h : w.ownsRow b e size v n xs) {g : Nat} (hg : v.ownBlock = some g) : ∃ cur, w.heap[g]? = some (.cells cur e (0, 0)) := by
  rcases h.2 with ⟨e1, _⟩ | ⟨g', cap, cur, e1, _, hh, _⟩
  · rw [e1] at hg; cases hg
  · rw [e1] at hg
    have : g' = g := by simpa [Value.ownBlock] using hg
    subst this
    exact ⟨cur, hh⟩
theorem Mk.kept1 {w w' : World} {v : Value} {k : Nat} (h : Mk w v k) (hk : ∀ g, v.ownBlock = some g → w'.heap[g]? = w.heap[g]?) : Mk w' v k := by
  obtain ⟨ao, n, cap, rfl, hn, h⟩ := h
  refine ⟨ao, n, cap, rfl, hn, fun h0 => ?_⟩
  obtain ⟨g, cur, h1, h2, h3⟩ := h h0
  exact ⟨g, cur, h1, (hk g (by rw [h1]; rfl)).trans h2, h3⟩

/-- What stands in the second loop of 'keep'. -/
structure KR (w0 : World) (C B bw bd : Nat) (xv bv ov : Value) (tw br : Bool) (lsv : Value) (X : List Value) (n bm i : Nat) (gv lsi : Value) (Y : List Value) (wr : World) : Prop where
  ylen : Y.length = i
  own : wr.heap[bw]? = some (.cells (bcells bd xv bv ov tw br lsi) 33 (0, 0))
  outer : wr.ownsRow B 28 1 lsi (X.length + i) (X ++ Y)
  inner : ∀ k u, (X ++ Y)[k]? = some u → Mk wr u (k / 4)
  short : ∀ u ∈ Y, ∃ ao m cap, u = Value.slice ao m cap ∧ m ≤ n + i
  row : wr.ownsRow C 76 5 gv (n + i) (rowD (List.replicate (n + i) (mkNd (X.length / 4))))
  mark : wr.heap[bm]? = some (.cells (ndC (mkNd (X.length / 4))).toArray 76 (0, 0))
  size : w0.heap.size ≤ wr.heap.size
  os : wr.os = w0.os
  tape : wr.tape = w0.tape
  output : wr.output = w0.output
  low : ∀ k, k < C → k ≠ bw → lsv.ownBlock ≠ some k → wr.heap[k]? = w0.heap[k]?
  fresh : ∀ g, lsi.ownBlock = some g → lsv.ownBlock = some g ∨ C ≤ g
  mne : gv.ownBlock ≠ some bm
  mlt : bm < wr.heap.size
  ylow : ∀ u ∈ Y, ∀ g, Value.ownBlock u = some g → g < wr.heap.size
/-- A round: the list of lists is appended to, then the list. -/
theorem KR.next {w0 wr w1 w3 : World} {C B bw bd : Nat} {xv bv ov : Value} {tw br : Bool} {lsv : Value} {X : List Value} {n bm i : Nat} {gv lsi ls2 g2 : Value} {Y : List Value} {o1 o2 : Obj} (h : KR w0 C B bw bd xv bv ov tw br lsv X n bm i gv lsi Y wr)
    (hin : ∀ (k : Nat) (u : Value), X[k]? = some u → ∀ g, u.ownBlock = some g → g < C) (hbw : bw < C) (hC : C ≤ w0.heap.size) (hi : i < 4) (hn : n ≤ 90) (h4 : X.length % 4 = 0)
    (hg1 : (wr.alloc o1).grownBy w1 lsi.ownBlock) (ho1 : w1.ownsRow B 28 1 ls2 (X.length + i + 1) (X ++ Y ++ [gv])) (hf1 : ls2.ownBlock = lsi.ownBlock ∨ ls2.ownBlock = some (wr.alloc o1).heap.size)
    (hg3 : ((w1.setCell ⟨bw, 6, none⟩ ls2).alloc o2).grownBy w3 gv.ownBlock) (hp3 : KeepsPre ((w1.setCell ⟨bw, 6, none⟩ ls2).alloc o2) w3 76 5 (n + i) gv) (ho3 : w3.ownsRow C 76 5 g2 (n + i + 1) (rowD (List.replicate (n + i) (mkNd (X.length / 4))) ++ ndC (mkNd (X.length / 4)))) (hf3 : g2.ownBlock = gv.ownBlock ∨ g2.ownBlock = some ((w1.setCell ⟨bw, 6, none⟩ ls2).alloc o2).heap.size) :
    KR w0 C B bw bd xv bv ov tw br lsv X n bm (i + 1) g2 ls2 (Y ++ [gv]) w3 := by
  obtain ⟨ao, cap, hgf⟩ := row_form h.row
  have hs0 := h.size
  have hs1 : wr.heap.size + 1 ≤ w1.heap.size := by have := hg1.size; simpa using this
  have hs3 : w1.heap.size + 1 ≤ w3.heap.size := by have := hg3.size; simpa [World.setCell] using this
  have kb1 : ∀ k, k < wr.heap.size → lsi.ownBlock ≠ some k → w1.heap[k]? = wr.heap[k]? := fun k hk hne => (hg1.block k (by simp; omega) (fun e => hne e.symm)).trans (Below.heap_alloc _ _ _ hk)
  have lbw : bw < wr.heap.size := lt_of_heap h.own
  have own1 : w1.heap[bw]? = some (.cells (bcells bd xv bv ov tw br lsi) 33 (0, 0)) := (kb1 bw lbw (ownsRow_ne h.outer h.own (by decide))).trans h.own
  have row1 : w1.ownsRow C 76 5 gv (n + i) (rowD (List.replicate (n + i) (mkNd (X.length / 4)))) := ownsRow_kept h.row fun g hg => by
    obtain ⟨cur, hc⟩ := own_blk h.row hg
    exact kb1 g (lt_of_heap hc) (ownsRow_ne h.outer hc (by decide))
  have kb2 : ∀ k, k ≠ bw → (w1.setCell ⟨bw, 6, none⟩ ls2).heap[k]? = w1.heap[k]? := fun k hk => Below.heap_setCell _ _ _ _ hk
  have own2 : (w1.setCell ⟨bw, 6, none⟩ ls2).heap[bw]? = some (.cells (bcells bd xv bv ov tw br ls2) 33 (0, 0)) := by
    rw [heap_setCell_same w1 bw 6 _ _ ls2 own1]; rfl
  have row2 := ownsRow_set row1 ⟨bw, 6, none⟩ (ownsRow_ne row1 own1 (by decide)) ls2
  have out2 := ownsRow_set ho1 ⟨bw, 6, none⟩ (ownsRow_ne ho1 own1 (by decide)) ls2
  have hsz2 : (w1.setCell ⟨bw, 6, none⟩ ls2).heap.size = w1.heap.size := by simp [World.setCell]
  have kb3 : ∀ k, k < w1.heap.size → gv.ownBlock ≠ some k → w3.heap[k]? = (w1.setCell ⟨bw, 6, none⟩ ls2).heap[k]? := fun k hk hne => (hg3.block k (by simp [hsz2]; omega) (fun e => hne e.symm)).trans (Below.heap_alloc _ _ _ (by omega))
  have mk2 : ∀ u k, Mk wr u k → Mk (w1.setCell ⟨bw, 6, none⟩ ls2) u k := fun u k hu => hu.kept fun g cur hc => by
    rw [kb2 g (fun e => by subst e; rw [h.own] at hc; simp only [Option.some.injEq, Obj.cells.injEq] at hc; exact absurd hc.2.1 (by decide))]
    exact kb1 g (lt_of_heap hc) (ownsRow_ne h.outer hc (by decide))
  have mk2a : ∀ u k, Mk wr u k → Mk ((w1.setCell ⟨bw, 6, none⟩ ls2).alloc o2) u k := fun u k hu => (mk2 u k hu).kept fun g cur hc => Below.heap_alloc _ _ _ (lt_of_heap hc)
  have hil : (X ++ Y).length = X.length + i := by rw [List.length_append, h.ylen]
  refine { ylen := by simp [h.ylen], own := ?_, outer := ?_, inner := ?_, short := ?_, row := ?_, mark := ?_, size := by omega, os := hg3.os.trans (hg1.os.trans h.os), tape := hg3.tape.trans (hg1.tape.trans h.tape), output := hg3.output.trans (hg1.output.trans h.output), low := ?_, fresh := ?_, mne := ?_, mlt := by have := h.mlt; omega, ylow := ?_ }
  · exact (kb3 bw (by omega) (ownsRow_ne h.row h.own (by decide))).trans own2
  · have := ownsRow_kept out2 (w' := w3) fun g hg => by
      obtain ⟨cur, hc⟩ := own_blk out2 hg
      exact kb3 g (by have := lt_of_heap hc; omega) (ownsRow_ne row2 hc (by decide))
    rw [← List.append_assoc]
    exact this
  · intro k u hu
    rw [← List.append_assoc] at hu
    rcases Nat.lt_or_ge k (X.length + i) with hk | hk
    · rw [List.getElem?_append_left (by omega)] at hu
      have hm := mk2 u (k / 4) (h.inner k u hu)
      have hma := mk2a u (k / 4) (h.inner k u hu)
      rcases Nat.lt_or_ge k X.length with hkx | hkx
      · rw [List.getElem?_append_left hkx] at hu
        refine hm.kept1 fun g hg => ?_
        have h1 := hin k u hu g hg
        exact kb3 g (by omega) (fun e => by have := (h.row.lt g e).1; omega)
      · rw [List.getElem?_append_right hkx] at hu
        obtain ⟨ao', m, cap', rfl, hm'⟩ := h.short u (List.mem_of_getElem? hu)
        exact hma.pre hm' hg3 hp3
    · rw [List.getElem?_append_right (by omega)] at hu
      have hk' : k = X.length + i := by
        have h5 := (List.getElem?_eq_some_iff.1 hu).1
        rw [hil, List.length_singleton] at h5
        omega
      subst hk'
      rw [hil, Nat.sub_self] at hu
      simp at hu
      subst hu
      have e4 : (X.length + i) / 4 = X.length / 4 := by omega
      rw [e4]
      have hm := Mk.ofRow row2 (by omega)
      have hma : Mk ((w1.setCell ⟨bw, 6, none⟩ ls2).alloc o2) gv (X.length / 4) := hm.kept fun g cur hc => Below.heap_alloc _ _ _ (lt_of_heap hc)
      rw [hgf] at hma hg3 hp3 ⊢
      exact hma.pre (Nat.le_refl _) hg3 hp3
  · intro u hu
    rcases List.mem_append.1 hu with hu | hu
    · obtain ⟨ao', m, cap', e, hm'⟩ := h.short u hu
      exact ⟨ao', m, cap', e, by omega⟩
    · simp at hu
      subst hu
      exact ⟨ao, n + i, cap, hgf, by omega⟩
  · rw [rowD_rep] at ho3
    exact ho3
  · have hbm1 : w1.heap[bm]? = wr.heap[bm]? := kb1 bm h.mlt (ownsRow_ne h.outer h.mark (by decide))
    have hne : bm ≠ bw := fun e => by
      have h1 := h.mark
      rw [e, h.own] at h1
      simp only [Option.some.injEq, Obj.cells.injEq] at h1
      exact absurd h1.2.1 (by decide)
    exact (kb3 bm (by have := h.mlt; omega) h.mne).trans ((kb2 bm hne).trans (hbm1.trans h.mark))
  · intro k hk hkb hkl
    have hlk : lsi.ownBlock ≠ some k := fun e => by
      rcases h.fresh k e with e' | e'
      · exact hkl e'
      · omega
    have hgk : gv.ownBlock ≠ some k := fun e => by have := (h.row.lt k e).1; omega
    exact (kb3 k (by omega) hgk).trans ((kb2 k hkb).trans ((kb1 k (by omega) hlk).trans (h.low k hk hkb hkl)))
  · intro g hg
    rcases hf1 with e | e
    · exact h.fresh g (e ▸ hg)
    · rw [e] at hg
      have : (wr.alloc o1).heap.size = g := by simpa using hg
      right
      rw [← this]; simp; omega
  · rcases hf3 with e | e
    · rw [e]; exact h.mne
    · rw [e]
      intro h'
      have : ((w1.setCell ⟨bw, 6, none⟩ ls2).alloc o2).heap.size = bm := by simpa using h'
      have h2 := h.mlt
      rw [← this] at h2
      simp [hsz2] at h2
      omega
  · intro u hu g hg
    rcases List.mem_append.1 hu with hu | hu
    · have := h.ylow u hu g hg
      omega
    · simp at hu
      subst hu
      have := (h.row.lt g hg).2
      omega
end Go.Proofs.YtcbindgpbeaebaaGreatDoor

namespace Go.Proofs.YtcbindgpbeaebaaGreatDoor
open Go.RowKit Go.Deep
attribute [local go_sem ↓] Go.wp_at_zero Go.wp_at_succ

/-- What stands in the first loop of 'keep': k of the list's places are marked. -/
structure FR (W : World) (C n q : Nat) (v : Value) (k : Nat) (wr : World) : Prop where
  size : wr.heap.size = W.heap.size
  os : wr.os = W.os
  tape : wr.tape = W.tape
  output : wr.output = W.output
  low : ∀ b, v.ownBlock ≠ some b → wr.heap[b]? = W.heap[b]?
  zero : n = 0 → wr.heap = W.heap
  row : 0 < n → ∃ g cap cur, v = .slice (some ⟨g, 0, none⟩) n cap ∧ C ≤ g ∧ wr.heap[g]? = some (.cells cur 76 (0, 0)) ∧ n ≤ cap ∧ cap ≤ maxLen ∧ cur.size = cap * 5 ∧ ∀ i, i < k → ∀ j y, (ndC (mkNd q))[j]? = some y → cur[i * 5 + j]? = some y
theorem FR.start {W : World} {C n q : Nat} {v : Value} {xs : List Value} (h : W.ownsRow C 76 5 v n xs) : FR W C n q v 0 W := by
  refine ⟨rfl, rfl, rfl, rfl, fun _ _ => rfl, fun _ => rfl, fun h0 => ?_⟩
  rcases h.2 with ⟨_, e⟩ | ⟨g, cap, cur, e, hg, hh, h1, h2, h3, _⟩
  · omega
  · exact ⟨g, cap, cur, e, hg, hh, h1, h2, h3, fun i hi => by omega⟩
theorem FR.fin {W : World} {C n q : Nat} {v : Value} {xs : List Value} {wr : World} (h : FR W C n q v n wr) (hv : W.ownsRow C 76 5 v n xs) : wr.ownsRow C 76 5 v n (rowD (List.replicate n (mkNd q))) := by
  rcases Nat.eq_zero_or_pos n with h0 | h0
  · subst h0
    have hx : xs = [] := List.eq_nil_of_length_eq_zero (by have := hv.1; omega)
    subst hx
    refine ⟨rfl, ?_⟩
    rcases hv.2 with ⟨e, _⟩ | ⟨g, cap, cur, e, hg, hh, h1, h2, h3, _⟩
    · exact .inl ⟨e, rfl⟩
    · exact .inr ⟨g, cap, cur, e, hg, by rw [h.zero rfl]; exact hh, h1, h2, h3, by simp [rowD]⟩
  · obtain ⟨g, cap, cur, e, hg, hh, h1, h2, h3, h4⟩ := h.row h0
    refine ⟨by rw [rowD_len, List.length_replicate], .inr ⟨g, cap, cur, e, hg, hh, h1, h2, h3, ?_⟩⟩
    apply List.ext_getElem?
    intro t
    rw [List.getElem?_take]
    split
    · next ht =>
      have hq : t = t / 5 * 5 + t % 5 := by omega
      have hy : ∃ y, (ndC (mkNd q))[t % 5]? = some y := ⟨(ndC (mkNd q))[t % 5]'(by simp [ndC]; omega), List.getElem?_eq_getElem _⟩
      obtain ⟨y, hy⟩ := hy
      have e1 := h4 (t / 5) (by omega) (t % 5) y hy
      have e2 := rowD_at (List.replicate n (mkNd q)) (t / 5) (t % 5) (mkNd q) (by rw [List.getElem?_replicate, if_pos (by omega)]) (by omega)
      rw [← hq] at e1 e2
      rw [e2, hy, Array.getElem?_toList, e1]
    · next ht =>
      symm
      rw [List.getElem?_eq_none_iff, rowD_len, List.length_replicate]
      omega
/-- Five stores, one behind the other. -/
theorem set5 {w : World} {g o : Nat} {cur : Array Value} {t : TypeId} {x0 x1 x2 x3 x4 : Value} (h : w.heap[g]? = some (.cells cur t (0, 0))) :
    (((((w.setCell ⟨g, o, none⟩ x0).setCell ⟨g, o + 1, none⟩ x1).setCell ⟨g, o + 2, none⟩ x2).setCell ⟨g, o + 3, none⟩ x3).setCell ⟨g, o + 4, none⟩ x4).heap[g]? = some (.cells (((((cur.setIfInBounds o x0).setIfInBounds (o + 1) x1).setIfInBounds (o + 2) x2).setIfInBounds (o + 3) x3).setIfInBounds (o + 4) x4) t (0, 0)) :=
  heap_setCell_same _ g _ _ _ _ (heap_setCell_same _ g _ _ _ _ (heap_setCell_same _ g _ _ _ _ (heap_setCell_same _ g _ _ _ _ (heap_setCell_same w g _ _ _ _ h))))
theorem FR.next {W : World} {C n q : Nat} {g cap : Nat} {k : Nat} {wr : World} (h : FR W C n q (.slice (some ⟨g, 0, none⟩) n cap) k wr) (hk : k < n) :
    FR W C n q (.slice (some ⟨g, 0, none⟩) n cap) (k + 1) (((((wr.setCell ⟨g, k * 5, none⟩ (.string (mkNd q).path)).setCell ⟨g, k * 5 + 1, none⟩ (.int .i64 (mkNd q).kind)).setCell ⟨g, k * 5 + 2, none⟩ (.int .i64 (mkNd q).mode)).setCell ⟨g, k * 5 + 3, none⟩ (.int .i64 (mkNd q).tag)).setCell ⟨g, k * 5 + 4, none⟩ (.string (mkNd q).data)) := by
  obtain ⟨g', cap', cur, e, hg, hh, h1, h2, h3, h4⟩ := h.row (by omega)
  simp only [Value.slice.injEq, Option.some.injEq, Addr.mk.injEq, and_true, true_and] at e
  obtain ⟨rfl, rfl⟩ := e
  refine ⟨by simp [World.setCell, h.size], by simp [World.setCell, h.os], by simp [World.setCell, h.tape], by simp [World.setCell, h.output], fun b hb => ?_, fun e => by omega, fun _ => ⟨g, cap, _, rfl, hg, set5 hh, h1, h2, by simp [h3], fun i hi j y hy => ?_⟩⟩
  · have hne : b ≠ g := fun e => hb (by rw [e]; rfl)
    rw [Below.heap_setCell _ _ _ _ hne, Below.heap_setCell _ _ _ _ hne, Below.heap_setCell _ _ _ _ hne, Below.heap_setCell _ _ _ _ hne, Below.heap_setCell _ _ _ _ hne]
    exact h.low b hb
  · have hj : j < 5 := by
      have := (List.getElem?_eq_some_iff.1 hy).1
      simpa [ndC] using this
    have hs : k * 5 + 4 < cur.size := by omega
    rw [Array.getElem?_setIfInBounds, Array.getElem?_setIfInBounds, Array.getElem?_setIfInBounds, Array.getElem?_setIfInBounds, Array.getElem?_setIfInBounds]
    simp only [Array.size_setIfInBounds]
    by_cases hik : i = k
    · subst hik
      match j, hj, hy with
      | 0, _, hy =>
        rw [if_neg (by omega), if_neg (by omega), if_neg (by omega), if_neg (by omega), if_pos (by omega), if_pos (by omega)]
        exact hy
      | 1, _, hy =>
        rw [if_neg (by omega), if_neg (by omega), if_neg (by omega), if_pos (by omega), if_pos (by omega)]
        exact hy
      | 2, _, hy =>
        rw [if_neg (by omega), if_neg (by omega), if_pos (by omega), if_pos (by omega)]
        exact hy
      | 3, _, hy =>
        rw [if_neg (by omega), if_pos (by omega), if_pos (by omega)]
        exact hy
      | 4, _, hy =>
        rw [if_pos (by omega), if_pos (by omega)]
        exact hy
    · rw [if_neg (by omega), if_neg (by omega), if_neg (by omega), if_neg (by omega), if_neg (by omega)]
      exact h4 i (by omega) j y hy

theorem info_nodes : (Tryz.prog.info? 28).map (fun i => (i.zero, i.size, i.bytes)) = some (some (.slice none 0 0), 1, 24) := by kernel_rfl
/-- What 'keep' leaves. -/
def KeepPost (w : World) (C B bw bd : Nat) (xv bv ov : Value) (tw br : Bool) (lsv : Value) (X : List Value) (e : Ending) (w' : World) : Prop :=
  ∃ ls2 X2, e = .returned (.tuple #[]) ∧ w'.heap[bw]? = some (.cells (bcells bd xv bv ov tw br ls2) 33 (0, 0)) ∧ LsAt w' B ls2 X2 ∧ X2.length = X.length + 4 ∧ w.heap.size ≤ w'.heap.size ∧ w'.os = w.os ∧ w'.tape = w.tape ∧ w'.output = w.output ∧ (∀ k, k < C → k ≠ bw → lsv.ownBlock ≠ some k → w'.heap[k]? = w.heap[k]?) ∧ ∀ g, ls2.ownBlock = some g → lsv.ownBlock = some g ∨ C ≤ g

set_option maxRecDepth 100000 in
set_option maxHeartbeats 6400000 in
theorem keep_any (w : World) (C B bw bd : Nat) (xv bv ov : Value) (tw br : Bool) (lsv : Value) (X : List Value) (v : Value) (n : Nat) (xs : List Value) (hw : w.heap[bw]? = some (.cells (bcells bd xv bv ov tw br lsv) 33 (0, 0))) (hls : LsAt w B lsv X) (hX : X.length + 4 ≤ 100000000)
    (hv : w.ownsRow C 76 5 v n xs) (hn : n ≤ 90) (hC : C ≤ w.heap.size) (hB : B ≤ w.heap.size) (hbw : bw < C) (hin : ∀ (k : Nat) (u : Value), X[k]? = some u → ∀ g, u.ownBlock = some g → g < C) :
    Calls Tryz.prog 42 #[.pointer (some ⟨bw, 0, none⟩), v] w (KeepPost w C B bw bd xv bv ov tw br lsv X) := by
  obtain ⟨ao, cap, hvf⟩ := row_form hv
  obtain ⟨lo, lcap, hlf⟩ := row_form hls.outer
  obtain ⟨⟨x0, x1, x2, x3, x4, x5, x6⟩, xz⟩ := bcell hw
  obtain ⟨j0, hj0, hz0, hz1, hz2⟩ := info_parts info_Node5
  obtain ⟨i0, hi0, hy0, hy1, hy2⟩ := info_parts info_nodes
  have hdiv : -1 - (X.length : Int) / 4 = (mkNd (X.length / 4)).mode := by simp only [mkNd]; omega
  obtain ⟨W, hW⟩ : ∃ W, W = w.alloc (.cells (ndC (mkNd (X.length / 4))).toArray 76) := ⟨_, rfl⟩
  have hsW : W.heap.size = w.heap.size + 1 := by rw [hW]; simp
  have hvW : W.ownsRow C 76 5 v n xs := by rw [hW]; exact hv.alloc _
  have hmW : W.heap[w.heap.size]? = some (.cells (ndC (mkNd (X.length / 4))).toArray 76 (0, 0)) := by rw [hW]; exact heap_alloc_new w _
  have hwW : W.heap[bw]? = some (.cells (bcells bd xv bv ov tw br lsv) 33 (0, 0)) := by rw [hW]; exact (Below.heap_alloc _ _ _ (by omega)).trans hw
  have hlsW : LsAt W B lsv X := by rw [hW]; exact hls.below (below_new w _)
  have hlW : ∀ k, k < w.heap.size → W.heap[k]? = w.heap[k]? := fun k hk => by rw [hW]; exact Below.heap_alloc _ _ _ hk
  have hoW : W.os = w.os ∧ W.tape = w.tape ∧ W.output = w.output := by rw [hW]; exact ⟨rfl, rfl, rfl⟩
  have hx4 := hls.four
  subst hvf hlf
  have hbs : bw < w.heap.size := by omega
  have HHV := hide hvW
  have HMW := hide hmW
  have HWW := hide hwW
  have HLS := hide hlsW
  have HLW := hide hlW
  have HOW := hide hoW
  have HIN := hide hin
  have HFR0 := hide (FR.start (q := X.length / 4) hvW)
  have nbm : (Value.slice ao n cap).ownBlock ≠ some w.heap.size := fun e => by have := (hv.lt _ e).2; omega
  have HNB := hide nbm
  have HNUM := hide (show ∀ i, i < 4 → (X.length + i + 1) * 24 ≤ 140737488355328 ∧ X.length + i + 1 ≤ maxLen from fun i hi => ⟨by omega, by unfold maxLen; omega⟩)
  have HNUM2 := hide (show ∀ i, i < 4 → (n + i + 1) * 56 ≤ 140737488355328 ∧ n + i + 1 ≤ maxLen from fun i hi => ⟨by omega, by unfold maxLen; omega⟩)
  clear hls hv hvW hmW hwW hlsW hlW hoW hin hw nbm
  go_enter Tryz.func42, Tryz.ntmps42
  go_wp2_with fail
  clear hdiv
  have hW2 : W = w.alloc (.cells #[.string ⟨#[126]⟩, .int .i64 0, .int .i64 (mkNd (X.length / 4)).mode, .int .i64 0, .string ⟨#[]⟩] 76) := hW
  rw [← hW2]
  clear hW hW2 x0 x1 x2 x3 x4 x5 x6 xz
  go_loopw [5] (fun i wr => ∃ k : Nat, k ≤ n ∧ i = .int .i64 k ∧ FR W C n (X.length / 4) (.slice ao n cap) k wr) (fun i _ => n - (intOf i).toNat)
  case atStart => exact ⟨0, Nat.zero_le _, rfl, unhide HFR0⟩
  case round =>
    obtain ⟨k, hk, rfl, hfr⟩ := hrel
    have hmr : wr.heap[w.heap.size]? = some (.cells (ndC (mkNd (X.length / 4))).toArray 76 (0, 0)) := (hfr.low _ (unhide HNB)).trans (unhide HMW)
    obtain ⟨m0, m1, m2, m3, m4⟩ := five_cells (v0 := .string (mkNd (X.length / 4)).path) (v1 := .int .i64 (mkNd (X.length / 4)).kind) (v2 := .int .i64 (mkNd (X.length / 4)).mode) (v3 := .int .i64 (mkNd (X.length / 4)).tag) (v4 := .string (mkNd (X.length / 4)).data) hmr
    by_cases hkn : k < n
    · obtain ⟨g, cap', cur, e, hg, hh, h1, h2, h3, h4⟩ := hfr.row (by omega)
      simp only [Value.slice.injEq, true_and] at e
      obtain ⟨rfl, rfl⟩ := e
      have cc : ∀ j, j < 5 → ∃ y, wr.cell? ⟨g, k * 5 + j, none⟩ = some y := fun j hj => by
        rw [cell_of_row wr g _ _ _ _ hh]
        exact ⟨cur[k * 5 + j]'(by omega), Array.getElem?_eq_getElem _⟩
      obtain ⟨y0, c0⟩ := cc 0 (by omega)
      obtain ⟨y1, c1⟩ := cc 1 (by omega)
      obtain ⟨y2, c2⟩ := cc 2 (by omega)
      obtain ⟨y3, c3⟩ := cc 3 (by omega)
      obtain ⟨y4, c4⟩ := cc 4 (by omega)
      have zz := fun j => frozen_of_row wr g j _ _ hh
      have z0 := zz (k * 5)
      have z1 := zz (k * 5 + 1)
      have z2 := zz (k * 5 + 2)
      have z3 := zz (k * 5 + 3)
      have z4 := zz (k * 5 + 4)
      rw [Nat.add_zero] at c0
      have k0 : (0 : Int) ≤ (k : Int) := Int.natCast_nonneg _
      have k1 : (k : Int) < (n : Int) := by omega
      have HNX := hide (hfr.next hkn)
      clear hfr hmr hh h4 cc zz
      go_wp2_with fail
      go_roundw
      case rel => exact ⟨k + 1, by omega, by go_num, unhide HNX⟩
      case measure => simp [intOf]; omega
    · have hkn' : k = n := by omega
      subst hkn'
      have k1 : ¬ ((k : Int) < (k : Int)) := by omega
      have hkr : KR w C B bw bd xv bv ov tw br (.slice lo X.length lcap) X k w.heap.size 0 (.slice ao k cap) (.slice lo X.length lcap) [] wr := by
        have hl := fun b hb => hfr.low b hb
        have hnb : ∀ b, b < C → (Value.slice ao k cap).ownBlock ≠ some b := fun b hb e => by have := ((unhide HHV).lt b e).1; omega
        have hls' : LsAt wr B (.slice lo X.length lcap) X := by
          have h0 := unhide HLS
          refine ⟨ownsRow_kept h0.outer fun g hg => ?_, fun i u hu => (h0.inner i u hu).kept1 fun g hg => hl g (hnb g ((unhide HIN) i u hu g hg)), h0.four, h0.len, fun k u hu g hg => by rw [hfr.size]; exact h0.low k u hu g hg⟩
          obtain ⟨cur, hc⟩ := own_blk h0.outer hg
          exact hl g (ownsRow_ne (unhide HHV) hc (by decide))
        obtain ⟨o1, o2, o3⟩ := unhide HOW
        refine { ylen := rfl, own := (hl bw (hnb bw hbw)).trans (unhide HWW), outer := by simpa using hls'.outer, inner := fun k u hu => hls'.inner k u (by simpa using hu), short := by simp, row := hfr.fin (unhide HHV), mark := hmr, size := by rw [hfr.size]; omega, os := hfr.os.trans o1, tape := hfr.tape.trans o2, output := hfr.output.trans o3, low := fun b hb _ _ => (hl b (hnb b hb)).trans ((unhide HLW) b (by omega)), fresh := fun g hg => .inl hg, mne := unhide HNB, mlt := by rw [hfr.size]; omega, ylow := by simp }
      have HKR := hide hkr
      clear hfr hmr hkr m0 m1 m2 m3 m4
      go_wp2_with fail
      go_loopw [6, 7] (fun g7 i7 wx => ∃ (i : Nat) (lsi : Value) (Y : List Value), i ≤ 4 ∧ i7 = .int .i64 i ∧ KR w C B bw bd xv bv ov tw br (.slice lo X.length lcap) X k w.heap.size i g7 lsi Y wx) (fun _ i7 _ => 4 - (intOf i7).toNat)
      case atStart => exact ⟨0, _, _, Nat.zero_le _, rfl, unhide HKR⟩
      case round =>
        obtain ⟨i, lsi, Y, hi4, rfl, hkr⟩ := hrel
        obtain ⟨lo2, lcap2, hlf2⟩ := row_form hkr.outer
        obtain ⟨go, gcap, hgf2⟩ := row_form hkr.row
        subst hlf2 hgf2
        obtain ⟨⟨x0, x1, x2, x3, x4, x5, x6⟩, xz⟩ := bcell hkr.own
        have z6 := xz 6
        obtain ⟨m0, m1, m2, m3, m4⟩ := five_cells (v0 := .string (mkNd (X.length / 4)).path) (v1 := .int .i64 (mkNd (X.length / 4)).kind) (v2 := .int .i64 (mkNd (X.length / 4)).mode) (v3 := .int .i64 (mkNd (X.length / 4)).tag) (v4 := .string (mkNd (X.length / 4)).data) hkr.mark
        by_cases hlt4 : i < 4
        · have i1 : (i : Int) < 4 := by omega
          have HKR2 := hide hkr
          have hsr := hkr.size
          have hB2 : B ≤ wr.heap.size := Nat.le_trans hB hsr
          have hC2 : C ≤ wr.heap.size := Nat.le_trans hC hsr
          have hbr : bw < wr.heap.size := Nat.lt_of_lt_of_le hbw hC2
          have hmr : w.heap.size < wr.heap.size := hkr.mlt
          obtain ⟨hb1, hl1⟩ := (unhide HNUM) i hlt4
          obtain ⟨hb3, hl3⟩ := (unhide HNUM2) i hlt4
          clear hkr
          go_wp2_with (first
            | (at_builtin; refine wpList_append_at rfl (.tmp 35) (.tmp 37) 31 rfl B 28 i0 (.slice none 0 0) 1 24 Tryz.underlying31 hi0 hy0 hy1 hy2 ?g1 ?g2 (.slice lo2 (X.length + i) lcap2) (X.length + i) (X ++ Y) ?g3 ?g4 ⟨wr.heap.size, 0, none⟩ 1 1 [.slice go (k + i) gcap] ?g5 ?g6 ?g7 ?g8 ?g9 ?g10 ?g11 ?_; (case g1 => rfl); (case g2 => decide); (case g3 => rfl); (case g4 => exact (unhide HKR2).outer.alloc _); (case g5 => rfl); (case g6 => rfl); (case g7 => exact World.news_of_block (cs := #[.slice go (k + i) gcap]) (t := 28) (fr := (0, 0)) (heap_alloc_new wr _)); (case g8 => simp [Value.oneCell']); (case g9 => exact hl1); (case g10 => exact hb1); (case g11 => simp; omega); intro v5 w5 ho5 hg5 hp5 hf5; obtain ⟨ao5, cap5, hv5⟩ := row_form ho5; subst hv5; have own5 : w5.heap[bw]? = some (.cells (bcells bd xv bv ov tw br (.slice lo2 (X.length + i) lcap2)) 33 (0, 0)) := (hg5.block bw (by simp; omega) (fun e => (ownsRow_ne (unhide HKR2).outer (unhide HKR2).own (by decide)) e.symm)).trans ((Below.heap_alloc _ _ _ hbr).trans (unhide HKR2).own); obtain ⟨⟨_, _, _, _, _, _, r6⟩, rz⟩ := bcell own5; have rz6 := rz 6; have mk5 : w5.heap[w.heap.size]? = some (.cells (ndC (mkNd (X.length / 4))).toArray 76 (0, 0)) := (hg5.block w.heap.size (by simp; omega) (fun e => (ownsRow_ne (unhide HKR2).outer (unhide HKR2).mark (by decide)) e.symm)).trans ((Below.heap_alloc _ _ _ hmr).trans (unhide HKR2).mark); obtain ⟨n0, n1, n2, n3, n4⟩ := five_cells (v0 := .string (mkNd (X.length / 4)).path) (v1 := .int .i64 (mkNd (X.length / 4)).kind) (v2 := .int .i64 (mkNd (X.length / 4)).mode) (v3 := .int .i64 (mkNd (X.length / 4)).tag) (v4 := .string (mkNd (X.length / 4)).data) mk5; have nbm : ¬ w.heap.size = bw := (by omega); have row5 : w5.ownsRow C 76 5 (.slice go (k + i) gcap) (k + i) (rowD (List.replicate (k + i) (mkNd (X.length / 4)))) := ownsRow_kept (unhide HKR2).row (fun g hg => (by obtain ⟨cur, hc⟩ := own_blk (unhide HKR2).row hg; exact (hg5.block g (by have := lt_of_heap hc; simp; omega) (fun e => (ownsRow_ne (unhide HKR2).outer hc (by decide)) e.symm)).trans (Below.heap_alloc _ _ _ (lt_of_heap hc)))); have row6 := ownsRow_set row5 ⟨bw, 6, none⟩ (ownsRow_ne row5 own5 (by decide)) (.slice ao5 (X.length + i + 1) cap5); have hs5 : wr.heap.size + 1 ≤ w5.heap.size := (by have := hg5.size; simpa using this); have HO5 := hide ho5; have HG5 := hide hg5; have HF5 := hide hf5; have HR6 := hide row6; clear ho5 hg5 hp5 hf5 own5 mk5 row5 row6)
            | (at_builtin; have hC5 : ∀ o, C ≤ ((w5.setCell ⟨bw, 6, none⟩ (.slice ao5 (X.length + i + 1) cap5)).alloc o).heap.size := (fun o => (by rw [World.size_alloc, show (w5.setCell ⟨bw, 6, none⟩ (.slice ao5 (X.length + i + 1) cap5)).heap.size = w5.heap.size by simp [World.setCell]]; exact Nat.le_succ_of_le (Nat.le_trans hC2 (Nat.le_of_succ_le hs5)))); have hnew : ∀ o, ((w5.setCell ⟨bw, 6, none⟩ (.slice ao5 (X.length + i + 1) cap5)).alloc o).heap[w5.heap.size]? = some o := (fun o => (by have h0 := heap_alloc_new (w5.setCell ⟨bw, 6, none⟩ (.slice ao5 (X.length + i + 1) cap5)) o; rw [show (w5.setCell ⟨bw, 6, none⟩ (.slice ao5 (X.length + i + 1) cap5)).heap.size = w5.heap.size by simp [World.setCell]] at h0; exact h0)); refine wpList_append_at rfl (.tmp 41) (.tmp 43) 28 rfl C 76 j0 zNdV 5 56 Tryz.underlying28 hj0 hz0 hz1 hz2 ?g1 ?g2 (.slice go (k + i) gcap) (k + i) (rowD (List.replicate (k + i) (mkNd (X.length / 4)))) ?g3 ?g4 ⟨w5.heap.size, 0, none⟩ 1 1 (ndC (mkNd (X.length / 4))) ?g5 ?g6 ?g7 ?g8 ?g9 ?g10 ?g11 ?_; (case g1 => rfl); (case g2 => decide); (case g3 => rfl); (case g4 => exact (unhide HR6).alloc _); (case g5 => rfl); (case g6 => rfl); (case g7 => exact World.news_of_block (cs := (ndC (mkNd (X.length / 4))).toArray) (t := 76) (fr := (0, 0)) (hnew _)); (case g8 => simp [ndC, Value.oneCell']); (case g9 => exact hl3); (case g10 => exact hb3); (case g11 => exact hC5 _); intro v7 w7 ho7 hg7 hp7 hf7; have hnx := (unhide HKR2).next (unhide HIN) hbw hC hlt4 hn hx4 (unhide HG5) (unhide HO5) (unhide HF5) hg7 hp7 ho7 hf7; have HNX := hide hnx; clear ho7 hg7 hp7 hf7 hnx hC5 hnew))
          go_roundw
          case rel => exact ⟨i + 1, _, _, by omega, by go_num, unhide HNX⟩
          case measure => simp [intOf]; omega
        · have hi4' : i = 4 := by omega
          subst hi4'
          have hX2 : (X ++ Y).length = X.length + 4 := by rw [List.length_append, hkr.ylen]
          have hpost : KeepPost w C B bw bd xv bv ov tw br (.slice lo X.length lcap) X (.returned (.tuple #[])) wr := ⟨_, X ++ Y, rfl, hkr.own, ⟨by rw [hX2]; exact hkr.outer, hkr.inner, by omega, by omega, fun j u hu g hg => by
            rcases Nat.lt_or_ge j X.length with hj | hj
            · rw [List.getElem?_append_left hj] at hu
              have h1 := (unhide HIN) j u hu g hg
              have h2 := hkr.size
              exact Nat.lt_of_lt_of_le h1 (Nat.le_trans hC h2)
            · rw [List.getElem?_append_right hj] at hu
              exact hkr.ylow u (List.mem_of_getElem? hu) g hg⟩, hX2, hkr.size, hkr.os, hkr.tape, hkr.output, hkr.low, hkr.fresh⟩
          have HPO := hide hpost
          clear hkr hpost
          go_wp2_with fail
          go_end0
          exact unhide HPO
end Go.Proofs.YtcbindgpbeaebaaGreatDoor

namespace Go.Proofs.YtcbindgpbeaebaaGreatDoor
open Go.RowKit Go.Deep
attribute [local go_sem ↓] Go.wp_at_zero Go.wp_at_succ

/-- Deeds that a script has, wherever they lie. -/
def DIn (w : World) (v : Value) (L : List Dd) : Prop := ∃ ao cap, v = .slice ao L.length cap ∧ (ao = none → cap = 0) ∧
  ∀ (i : Nat) (x : Dd), L[i]? = some x → ∃ b o, ao = some ⟨b, o, none⟩ ∧ b < w.heap.size ∧ ∀ j y, (ddC x)[j]? = some y → w.cell? ⟨b, o + i * 6 + j, none⟩ = some y
theorem DIn.below {w w' : World} {v : Value} {L : List Dd} (h : DIn w v L) (hb : Below w.heap.size w w') : DIn w' v L := by
  obtain ⟨ao, cap, hv, h0, h⟩ := h
  refine ⟨ao, cap, hv, h0, fun i x hx => ?_⟩
  obtain ⟨b, o, h1, h2, h3⟩ := h i x hx
  exact ⟨b, o, h1, Nat.lt_of_lt_of_le h2 hb.size, fun j y hy => (hb.cell (p := ⟨b, o + i * 6 + j, none⟩) h2).trans (h3 j y hy)⟩
/-- Element i of a row of deeds. -/
def EC (cur : Array Value) (i : Nat) (x : Dd) : Prop := ∀ j y, (ddC x)[j]? = some y → cur[i * 6 + j]? = some y
def markDd : Dd := ⟨false, ⟨⟨#[126]⟩, 77, 0, 0, ⟨#[]⟩⟩⟩
def rowE (L : List Dd) : List Value := L.flatMap ddC
theorem rowE_len : ∀ l : List Dd, (rowE l).length = l.length * 6
  | [] => rfl
  | p :: r => by
    have h := rowE_len r
    show (ddC p ++ rowE r).length = _
    rw [List.length_append, h]
    simp [ddC]; omega
theorem rowE_at : ∀ (M : List Dd) (k j : Nat) (p : Dd), M[k]? = some p → j < 6 → (rowE M)[k * 6 + j]? = (ddC p)[j]?
  | [], k, j, p, h, _ => by simp at h
  | q :: r, 0, j, p, h, hj => by
    simp at h; subst h
    rw [Nat.zero_mul, Nat.zero_add, rowE, List.flatMap_cons, List.getElem?_append_left (by simp [ddC]; omega)]
  | q :: r, k + 1, j, p, h, hj => by
    have ih := rowE_at r k j p (by simpa using h) hj
    rw [rowE, List.flatMap_cons, List.getElem?_append_right (by simp [ddC]; omega), ← ih, rowE]
    congr 1
    simp [ddC]; omega
theorem rowE_one (l : List Dd) : ∀ u ∈ rowE l, u.oneCell' = true := fun u hu => by
  simp only [rowE, List.mem_flatMap] at hu
  obtain ⟨n, _, hu⟩ := hu
  simp only [ddC, List.mem_cons, List.not_mem_nil, or_false] at hu
  rcases hu with rfl | rfl | rfl | rfl | rfl | rfl <;> rfl
theorem rowE_get (L : List Dd) (t : Nat) (u : Value) (hu : (rowE L)[t]? = some u) : ∃ x, L[t / 6]? = some x ∧ (ddC x)[t % 6]? = some u := by
  have hl := (List.getElem?_eq_some_iff.1 hu).1
  rw [rowE_len] at hl
  have hi : t / 6 < L.length := by omega
  refine ⟨L[t / 6], List.getElem?_eq_getElem hi, ?_⟩
  rw [← rowE_at L (t / 6) (t % 6) _ (List.getElem?_eq_getElem hi) (by omega), show t / 6 * 6 + t % 6 = t by omega]
  exact hu
/-- Six stores, one behind the other. -/
theorem set6 {w : World} {g o : Nat} {cur : Array Value} {t : TypeId} {x0 x1 x2 x3 x4 x5 : Value} (h : w.heap[g]? = some (.cells cur t (0, 0))) :
    ((((((w.setCell ⟨g, o, none⟩ x0).setCell ⟨g, o + 1, none⟩ x1).setCell ⟨g, o + 2, none⟩ x2).setCell ⟨g, o + 3, none⟩ x3).setCell ⟨g, o + 4, none⟩ x4).setCell ⟨g, o + 5, none⟩ x5).heap[g]? = some (.cells ((((((cur.setIfInBounds o x0).setIfInBounds (o + 1) x1).setIfInBounds (o + 2) x2).setIfInBounds (o + 3) x3).setIfInBounds (o + 4) x4).setIfInBounds (o + 5) x5) t (0, 0)) :=
  heap_setCell_same _ g _ _ _ _ (heap_setCell_same _ g _ _ _ _ (heap_setCell_same _ g _ _ _ _ (heap_setCell_same _ g _ _ _ _ (heap_setCell_same _ g _ _ _ _ (heap_setCell_same w g _ _ _ _ h)))))
/-- An element is stored: it is there, and the others are as they were. -/
theorem ec_set (cur : Array Value) (k : Nat) (d : Dd) (hs : k * 6 + 5 < cur.size) :
    EC ((((((cur.setIfInBounds (k * 6) (.bool d.take)).setIfInBounds (k * 6 + 1) (.string d.node.path)).setIfInBounds (k * 6 + 2) (.int .i64 d.node.kind)).setIfInBounds (k * 6 + 3) (.int .i64 d.node.mode)).setIfInBounds (k * 6 + 4) (.int .i64 d.node.tag)).setIfInBounds (k * 6 + 5) (.string d.node.data)) k d ∧
    ∀ i x, i ≠ k → EC cur i x → EC ((((((cur.setIfInBounds (k * 6) (.bool d.take)).setIfInBounds (k * 6 + 1) (.string d.node.path)).setIfInBounds (k * 6 + 2) (.int .i64 d.node.kind)).setIfInBounds (k * 6 + 3) (.int .i64 d.node.mode)).setIfInBounds (k * 6 + 4) (.int .i64 d.node.tag)).setIfInBounds (k * 6 + 5) (.string d.node.data)) i x := by
  refine ⟨fun j y hy => ?_, fun i x hik h j y hy => ?_⟩
  · have hj : j < 6 := by
      have := (List.getElem?_eq_some_iff.1 hy).1
      simpa [ddC] using this
    rw [Array.getElem?_setIfInBounds, Array.getElem?_setIfInBounds, Array.getElem?_setIfInBounds, Array.getElem?_setIfInBounds, Array.getElem?_setIfInBounds, Array.getElem?_setIfInBounds]
    simp only [Array.size_setIfInBounds]
    match j, hj, hy with
    | 0, _, hy =>
      rw [if_neg (by omega), if_neg (by omega), if_neg (by omega), if_neg (by omega), if_neg (by omega), if_pos (by omega), if_pos (by omega)]
      exact hy
    | 1, _, hy =>
      rw [if_neg (by omega), if_neg (by omega), if_neg (by omega), if_neg (by omega), if_pos (by omega), if_pos (by omega)]
      exact hy
    | 2, _, hy =>
      rw [if_neg (by omega), if_neg (by omega), if_neg (by omega), if_pos (by omega), if_pos (by omega)]
      exact hy
    | 3, _, hy =>
      rw [if_neg (by omega), if_neg (by omega), if_pos (by omega), if_pos (by omega)]
      exact hy
    | 4, _, hy =>
      rw [if_neg (by omega), if_pos (by omega), if_pos (by omega)]
      exact hy
    | 5, _, hy =>
      rw [if_pos (by omega), if_pos (by omega)]
      exact hy
  · have hj : j < 6 := by
      have := (List.getElem?_eq_some_iff.1 hy).1
      simpa [ddC] using this
    rw [Array.getElem?_setIfInBounds, Array.getElem?_setIfInBounds, Array.getElem?_setIfInBounds, Array.getElem?_setIfInBounds, Array.getElem?_setIfInBounds, Array.getElem?_setIfInBounds]
    rw [if_neg (by omega), if_neg (by omega), if_neg (by omega), if_neg (by omega), if_neg (by omega), if_neg (by omega)]
    exact h j y hy
def zDdV : Value := .agg #[.bool false, .string ⟨#[]⟩, .int .i64 0, .int .i64 0, .int .i64 0, .string ⟨#[]⟩]
theorem info_Deed6 : (Tryz.prog.info? 79).map (fun i => (i.zero, i.size, i.bytes)) = some (some zDdV, 6, 64) := by kernel_rfl
/-- What 'deals' hands in. -/
structure Dl (w : World) (g : Nat) (L : List Dd) (cur : Array Value) : Prop where
  own : w.heap[g]? = some (.cells cur 79 (0, 0))
  size : cur.size = (L.length + 8) * 6
  is : ∀ (i : Nat) (x : Dd), L[i]? = some x → EC cur i x
  marks : ∀ i, L.length ≤ i → i < L.length + 8 → EC cur i markDd

set_option maxRecDepth 100000 in
set_option maxHeartbeats 3200000 in
theorem deals_any (w : World) (a : Addr) (cap : Nat) (L : List Dd) (h : DIn w (.slice (some a) L.length cap) L) (hL : L.length ≤ 2000000) :
    Calls Tryz.prog 79 #[.slice (some a) L.length cap] w fun e w' => e = .returned (.slice (some ⟨w.heap.size, 0, none⟩) L.length (L.length + 8)) ∧ Below w.heap.size w w' ∧ ∃ cur, Dl w' w.heap.size L cur := by
  obtain ⟨i0, hi0, hz0, hz1, hz2⟩ := info_parts info_Deed6
  obtain ⟨Z, hZ⟩ : ∃ Z, Z = madeCells zDdV.cells ((L.length + 8) * 6) := ⟨_, rfl⟩
  have hZs : Z.size = (L.length + 8) * 6 := by rw [hZ]; exact size_madeCells _ _
  have hmk : ∀ w : World, (Instr.makeSlice 35 (.int .i64 ((L.length : Int) + 8)) (.int .i64 ((L.length : Int) + 8))).run Tryz.prog w = .ok (.slice (some ⟨w.heap.size, 0, none⟩) (L.length + 8) (L.length + 8)) (w.alloc (.cells Z 79)) := fun w => by
    have hr := run_make (P := Tryz.prog) w 35 79 i0 zDdV Tryz.underlying35 hi0 hz0 .i64 .i64 ((L.length : Int) + 8) ((L.length : Int) + 8) (by omega) (by omega) (by rw [hz2]; omega) (by omega)
    rw [hz1] at hr
    rw [hZ]
    exact hr
  clear hZ
  have HD := hide h
  clear h
  have heq : ∀ w : World, (binOp BinOp.eql 35 (.slice (some a) L.length cap) (.slice none 0 0)).run Tryz.prog w = .ok (.bool false) w := fun _ => by kernel_rfl
  have hlt0 : (0 : Int) ≤ (L.length : Int) := Int.natCast_nonneg _
  have hlt8 : (L.length : Int) ≤ (L.length : Int) + 8 := by omega
  go_enter Tryz.func79, Tryz.ntmps79
  go_wp2_with fail
  go_loopw [4] (fun i wr => ∃ (k : Nat) (cur : Array Value), k ≤ L.length + 8 ∧ i = .int .i64 k ∧ Below w.heap.size w wr ∧ wr.heap[w.heap.size]? = some (.cells cur 79 (0, 0)) ∧ cur.size = (L.length + 8) * 6 ∧ ∀ i, i < k → EC cur i markDd) (fun i _ => L.length + 8 - (intOf i).toNat)
  case atStart => exact ⟨0, Z, Nat.zero_le _, rfl, below_new w _, heap_alloc_new w _, hZs, fun i hi => by omega⟩
  case round =>
    obtain ⟨k, cur, hk, rfl, hb, hown, hsz, hall⟩ := hrel
    by_cases hlt : k < L.length + 8
    · have k0 : (0 : Int) ≤ (k : Int) := Int.natCast_nonneg _
      have k1 : (k : Int) < (L.length : Int) + 8 := by omega
      have k2 : (k : Int) < ((L.length + 8 : Nat) : Int) := by omega
      have cc : ∀ j, j < 6 → ∃ y, wr.cell? ⟨w.heap.size, k * 6 + j, none⟩ = some y := fun j hj => by
        rw [cell_of_row wr _ _ _ _ _ hown]
        exact ⟨cur[k * 6 + j]'(by omega), Array.getElem?_eq_getElem _⟩
      obtain ⟨y0, c0⟩ := cc 0 (by omega)
      obtain ⟨y1, c1⟩ := cc 1 (by omega)
      obtain ⟨y2, c2⟩ := cc 2 (by omega)
      obtain ⟨y3, c3⟩ := cc 3 (by omega)
      obtain ⟨y4, c4⟩ := cc 4 (by omega)
      obtain ⟨y5, c5⟩ := cc 5 (by omega)
      rw [Nat.add_zero] at c0
      have zz := fun j => frozen_of_row wr w.heap.size j _ _ hown
      have z0 := zz (k * 6)
      have z1 := zz (k * 6 + 1)
      have z2 := zz (k * 6 + 2)
      have z3 := zz (k * 6 + 3)
      have z4 := zz (k * 6 + 4)
      have z5 := zz (k * 6 + 5)
      obtain ⟨e1, e2⟩ := ec_set cur k markDd (by omega)
      have HE1 := hide e1
      have HE2 := hide e2
      have HS6 := hide (set6 (o := k * 6) (x0 := .bool markDd.take) (x1 := .string markDd.node.path) (x2 := .int .i64 markDd.node.kind) (x3 := .int .i64 markDd.node.mode) (x4 := .int .i64 markDd.node.tag) (x5 := .string markDd.node.data) hown)
      have HB := hide hb
      have HALL := hide hall
      clear cc zz e1 e2 hown hb hall
      go_wp2_with fail
      go_roundw
      case rel =>
        refine ⟨k + 1, _, by omega, by go_num, ?_, unhide HS6, by simp [hsz], fun i hi => ?_⟩
        · exact (((((((unhide HB).setCell (Nat.le_refl _) _).setCell (Nat.le_refl _) _).setCell (Nat.le_refl _) _).setCell (Nat.le_refl _) _).setCell (Nat.le_refl _) _).setCell (Nat.le_refl _) _)
        · by_cases e : i = k
          · subst e; exact unhide HE1
          · exact (unhide HE2) i markDd e ((unhide HALL) i (by omega))
      case measure => simp [intOf]; omega
    · have hk8 : k = L.length + 8 := by omega
      subst hk8
      have k1 : ¬ (((L.length + 8 : Nat) : Int) < (L.length : Int) + 8) := by omega
      have hmin : Nat.min L.length (L.length + 8) = L.length := by simp
      have hcp : ∀ ty, (Builtin.copy_ #[35, 35] ty #[.slice (some ⟨w.heap.size, 0, none⟩) (L.length + 8) (L.length + 8), .slice (some a) L.length cap]).run Tryz.prog wr = .ok (goInt (Nat.min L.length (L.length + 8))) (wr.setRow w.heap.size (cur.toList.take 0 ++ rowE L ++ cur.toList.drop (0 + (rowE L).length)).toArray) := fun ty =>
        run_copy_k (P := Tryz.prog) wr 35 35 ty 79 6 w.heap.size 0 (L.length + 8) (L.length + 8) a L.length cap cur 79 (rowE L) Tryz.underlying35 (by rw [hi0]; simp [hz1]) hown (by rw [hmin, rowE_len]) (fun t u hu => by
          obtain ⟨x, hx, hy⟩ := rowE_get L t u hu
          obtain ⟨ao', cap', hv, _, hd⟩ := (unhide HD).below hb
          simp only [Value.slice.injEq, true_and] at hv
          obtain ⟨rfl, rfl⟩ := hv
          obtain ⟨b, o, e, _, h3⟩ := hd (t / 6) x hx
          have e' : a = ⟨b, o, none⟩ := by simpa using e
          have hadd : (⟨b, o, none⟩ : Addr).add t = ⟨b, o + t, none⟩ := by unfold Addr.add; split <;> simp_all
          rw [e', hadd]
          have := h3 (t % 6) u hy
          rw [show o + t / 6 * 6 + t % 6 = o + t by omega] at this
          exact this) (by rw [rowE_len]; omega) (rowE_one L)
      have hcp3 := hcp 3
      have hfin : ∃ cur', Dl (wr.setRow w.heap.size (cur.toList.take 0 ++ rowE L ++ cur.toList.drop (0 + (rowE L).length)).toArray) w.heap.size L cur' := by
        refine ⟨_, setRow_heap wr w.heap.size cur _ 79 _ hown, ?_, fun i x hx j y hy => ?_, fun i h1 h2 j y hy => ?_⟩
        · simp only [List.size_toArray, List.length_append, List.length_take, List.length_drop, Array.length_toList, rowE_len]
          omega
        · have hj : j < 6 := by
            have := (List.getElem?_eq_some_iff.1 hy).1
            simpa [ddC] using this
          have hil := (List.getElem?_eq_some_iff.1 hx).1
          rw [List.getElem?_toArray, List.take_zero, List.nil_append, List.getElem?_append_left (by rw [rowE_len]; omega), rowE_at L i j x hx hj]
          exact hy
        · have hj : j < 6 := by
            have := (List.getElem?_eq_some_iff.1 hy).1
            simpa [ddC] using this
          rw [List.getElem?_toArray, List.take_zero, List.nil_append, List.getElem?_append_right (by rw [rowE_len]; omega), List.getElem?_drop, Nat.zero_add, show (rowE L).length + (i * 6 + j - (rowE L).length) = i * 6 + j by rw [rowE_len]; omega, Array.getElem?_toList]
          exact hall i h2 j y hy
      have hbf : Below w.heap.size w (wr.setRow w.heap.size (cur.toList.take 0 ++ rowE L ++ cur.toList.drop (0 + (rowE L).length)).toArray) := by
        refine ⟨hb.os, hb.tape, hb.output, by simpa using hb.size, fun k hk => ?_⟩
        rw [setRow_other wr w.heap.size k _ (by omega)]
        exact hb.block k hk
      have HFIN := hide hfin
      have HBF := hide hbf
      clear hcp hfin hbf hall hown hb
      generalize wr.setRow w.heap.size (cur.toList.take 0 ++ rowE L ++ cur.toList.drop (0 + (rowE L).length)).toArray = wf at hcp3 HFIN HBF
      go_wp2_with fail
      go_ret
      exact ⟨rfl, unhide HBF, unhide HFIN⟩
end Go.Proofs.YtcbindgpbeaebaaGreatDoor
