/-
  Bases, where what it reads is of bulk at most 1,048,576: the given row, out of the walk 'bases_law'.
-/
import Derived.Test.YtcbindgpbeaebaaGreatDoorRows
import Derived.Test.YtcbindgpbeaebaaGreatDoorCards
import Derived.Test.YtcbindgpbeaebaaGreatDoorTie
import Derived.Test.YtcbindgpbeaebaaGreatDoorBasesW
import Derived.WalkKit
import Derived.ProofKit
import Derived.OpenShut
import Derived.ShutString
import Derived.ChangeOld
import Derived.Below
import Derived.Deep.Slices
import Derived.Deep.DeepHandedRow
import Derived.Lay
import Derived.MakeChecks
import Derived.LaidLaws
import Derived.LaidHandle
import Derived.JoinedOf
import Derived.SevenTiedAt
namespace Go.Proofs.YtcbindgpbeaebaaGreatDoor.bases
open Go.ChangeShapes Go.WideShapes Go.ChangeAt Go.RowKit
open Go.ChangeMaps (open_string shut_string)
set_option linter.unusedVariables false

theorem own : ownKnob Tryz.prog.godebug = none := by kernel_rfl
theorem laidOut : laidOutB Tryz.prog = true := by kernel_rfl

theorem wf_i64 {n : Int} (h : (Lit.int .i64 n).wf = true) : -9223372036854775808 ≤ n ∧ n ≤ 9223372036854775807 := by
  have := bounds_i64 h
  omega
theorem add_plain (b o i : Nat) : (⟨b, o, none⟩ : Addr).add i = ⟨b, o + i, none⟩ := by unfold Addr.add; split <;> simp_all
theorem spot_none {w : World} {x : Addr} {v : Value} (h : w.cell? (x.add 0) = some v) : x = ⟨x.block, x.off, none⟩ := by
  obtain ⟨b, o, s⟩ := x
  cases s with
  | none => rfl
  | some t =>
    exfalso
    have e : (⟨b, o, some t⟩ : Addr).add 0 = ⟨b, o, some t⟩ := rfl
    rw [e] at h
    simp [World.cell?] at h
    split at h <;> simp_all
theorem ints_lt {w : World} {v : Value} {ks : List Int} (h : IntsAt w v ks) : ∀ b o n c, v = .slice (some ⟨b, o, none⟩) n c → 0 < n → b < w.heap.size := by
  obtain ⟨⟨ao, cap, hv, hc⟩, _⟩ := h
  intro b o n c e hn
  rw [hv] at e
  simp only [Value.slice.injEq] at e
  obtain ⟨e1, e2, _⟩ := e
  obtain ⟨b', o', e', hcell⟩ := hc 0 ks[0] (List.getElem?_eq_getElem (by omega))
  rw [e'] at e1
  simp only [Option.some.injEq, Addr.mk.injEq] at e1
  obtain ⟨rfl, rfl, _⟩ := e1
  exact World.block_lt_of_cell? w _ hcell
theorem deeds_lt {w : World} {v : Value} {L : List Dd} (h : DIn w v L) : ∀ b o n c, v = .slice (some ⟨b, o, none⟩) n c → 0 < n → b < w.heap.size := by
  obtain ⟨ao, cap, hv, _, hc⟩ := h
  intro b o n c e hn
  rw [hv] at e
  simp only [Value.slice.injEq] at e
  obtain ⟨e1, e2, _⟩ := e
  obtain ⟨b', o', e', hb, _⟩ := hc 0 L[0] (List.getElem?_eq_getElem (by omega))
  rw [e'] at e1
  simp only [Option.some.injEq, Addr.mk.injEq] at e1
  obtain ⟨rfl, rfl, _⟩ := e1
  exact hb

section
variable {H : Type} {enc : TypeId × Value → H} {W : World}
theorem bulk_mem {d : DataW H} : ∀ {l : List (DataW H)}, d ∈ l → Rows.uptoBulk d ≤ Rows.uptoBulkAll l
  | x :: r, h => by
    simp only [Rows.uptoBulkAll]
    rcases List.mem_cons.1 h with e | e
    · rw [e]; omega
    · have := bulk_mem e
      omega
theorem bulk_pos (d : DataW H) : 1 ≤ Rows.uptoBulk d := by
  cases d with
  | lit l => cases l <;> simp [Rows.uptoBulk]
  | _ => simp [Rows.uptoBulk]
theorem bulk_many : ∀ l : List (DataW H), l.length ≤ Rows.uptoBulkAll l
  | [] => by simp
  | x :: r => by
    have := bulk_many r
    have := bulk_pos x
    simp only [Rows.uptoBulkAll, List.length_cons]
    omega
theorem bulk_field {xs : List (DataW H × List MemPlace)} {i : Nat} {y : DataW H × List MemPlace} (h : xs[i]? = some y) : Rows.uptoBulk y.1 + 1 ≤ Rows.uptoBulk (DataW.agg (xs.map (·.1))) := by
  have := bulk_mem (List.mem_map_of_mem (f := fun x : DataW H × List MemPlace => x.1) (List.mem_of_getElem? h))
  simp only [Rows.uptoBulk]
  omega
theorem bulk_text (s : ByteArray) : Rows.uptoBulk (DataW.lit (H := H) (.string s.data.toList)) = s.size + 1 := by
  simp [Rows.uptoBulk]
/-- A list of numbers within a Turn. -/
theorem keep_open {fuel : Nat} {v : Value} {x : DataW H × List MemPlace} (h : DataW.trod enc Tryz.prog W 0 (fun _ => true) true fuel 36 [v] = some x) :
    ∃ ko kn kc ks, v = .slice ko kn kc ∧ IntsAt W (.slice ko kn kc) ks := by
  rcases open_ints Tryz.underlying36 Tryz.underlying3 (by kernel_rfl) h with ⟨hcs, _⟩ | ⟨x, l, c, zs, hcs, _, hl, hm, hz, _, hcell, hwz⟩
  · simp only [List.cons.injEq, and_true] at hcs
    exact ⟨none, 0, 0, [], hcs, ⟨none, 0, rfl, fun i c hi => by simp at hi⟩, fun c hc => by simp at hc⟩
  · simp only [List.cons.injEq, and_true] at hcs
    have hz : zs.length = c := by simpa using hz
    have hlen : (zs.take l).length = l := by rw [List.length_take]; omega
    refine ⟨some x, l, c, zs.take l, hcs, ⟨some x, c, by rw [hlen], fun i q hi => ?_⟩, fun q hq => wf_i64 (hwz q (List.mem_of_mem_take hq))⟩
    have hi' : i < l := by
      have := (List.getElem?_eq_some_iff.1 hi).1
      omega
    have hci := hcell i (by omega)
    have e := spot_none (hcell 0 (by omega))
    refine ⟨x.block, x.off, by rw [← e], ?_⟩
    have hadd : x.add i = ⟨x.block, x.off + i, none⟩ := by
      have := add_plain x.block x.off i
      rwa [← e] at this
    rw [hadd] at hci
    rw [hci]
    rw [List.getElem?_take_of_lt hi'] at hi
    simp [List.getD, hi]
theorem five {cs : List Value} (h : cs.length = 5) : ∃ c0 c1 c2 c3 c4, cs = [c0, c1, c2, c3, c4] := by
  match cs, h with
  | [c0, c1, c2, c3, c4], _ => exact ⟨c0, c1, c2, c3, c4, rfl⟩
theorem six {cs : List Value} (h : cs.length = 6) : ∃ c0 c1 c2 c3 c4 c5, cs = [c0, c1, c2, c3, c4, c5] := by
  match cs, h with
  | [c0, c1, c2, c3, c4, c5], _ => exact ⟨c0, c1, c2, c3, c4, c5, rfl⟩
theorem ce_int : Tryz.prog.cellsOf 3 = 1 := by kernel_rfl
theorem ce_bool : Tryz.prog.cellsOf 4 = 1 := by kernel_rfl
theorem ce_string : Tryz.prog.cellsOf 9 = 1 := by kernel_rfl
theorem ce_ints : Tryz.prog.cellsOf 36 = 1 := by kernel_rfl
theorem ce_deeds : Tryz.prog.cellsOf 35 = 1 := by kernel_rfl
theorem ce_Node : Tryz.prog.cellsOf 76 = 5 := by kernel_rfl
theorem ce_Deed : Tryz.prog.cellsOf 79 = 6 := by kernel_rfl
theorem ce_Turn : Tryz.prog.cellsOf 38 = 5 := by kernel_rfl
/-- A node. -/
theorem node_open {fuel : Nat} {cs : List Value} {x : DataW H × List MemPlace} (h : DataW.trod enc Tryz.prog W 0 (fun _ => true) true fuel 76 cs = some x) : ∃ n : Nd, cs = ndC n ∧ n.path.size ≤ Rows.uptoBulk x.1 := by
  obtain ⟨xs, m, _, hx, hl, hlen, hf⟩ := DataW.trod_struct Tryz.underlying76 h
  rw [ce_Node] at hl
  obtain ⟨c0, c1, c2, c3, c4, rfl⟩ := five hl
  have hx5 : xs.length = 5 := hlen
  have g0 : DataW.trod enc Tryz.prog W 0 (fun _ => true) true m 9 (([c0, c1, c2, c3, c4].drop 0).take (Tryz.prog.cellsOf 9)) = xs[0]? := hf 0 _ rfl
  have g1 : DataW.trod enc Tryz.prog W 0 (fun _ => true) true m 3 (([c0, c1, c2, c3, c4].drop 1).take (Tryz.prog.cellsOf 3)) = xs[1]? := hf 1 _ rfl
  have g2 : DataW.trod enc Tryz.prog W 0 (fun _ => true) true m 3 (([c0, c1, c2, c3, c4].drop 2).take (Tryz.prog.cellsOf 3)) = xs[2]? := hf 2 _ rfl
  have g3 : DataW.trod enc Tryz.prog W 0 (fun _ => true) true m 3 (([c0, c1, c2, c3, c4].drop 3).take (Tryz.prog.cellsOf 3)) = xs[3]? := hf 3 _ rfl
  have g4 : DataW.trod enc Tryz.prog W 0 (fun _ => true) true m 9 (([c0, c1, c2, c3, c4].drop 4).take (Tryz.prog.cellsOf 9)) = xs[4]? := hf 4 _ rfl
  have b0 : xs[0]? = some xs[0] := List.getElem?_eq_getElem (by omega)
  rw [List.getElem?_eq_getElem (by omega)] at g0 g1 g2 g3 g4
  simp only [ce_int, ce_string, List.drop_zero, List.drop_succ_cons, List.take_succ_cons, List.take_zero] at g0 g1 g2 g3 g4
  obtain ⟨s, e0, y0, _⟩ := DataW.trod_string Tryz.underlying9 g0
  obtain ⟨k1, e1, _, _⟩ := DataW.trod_int Tryz.underlying3 g1
  obtain ⟨k2, e2, _, _⟩ := DataW.trod_int Tryz.underlying3 g2
  obtain ⟨k3, e3, _, _⟩ := DataW.trod_int Tryz.underlying3 g3
  obtain ⟨t, e4, _, _⟩ := DataW.trod_string Tryz.underlying9 g4
  simp only [List.cons.injEq, and_true] at e0 e1 e2 e3 e4
  subst e0 e1 e2 e3 e4
  refine ⟨⟨s, k1, k2, k3, t⟩, rfl, ?_⟩
  have hb := bulk_field b0
  rw [y0] at hb
  rw [hx]
  have ht := bulk_text (H := H) s
  show s.size ≤ _
  simp only at hb ⊢
  omega
/-- A deed. -/
theorem deed_open {fuel : Nat} {cs : List Value} {x : DataW H × List MemPlace} (h : DataW.trod enc Tryz.prog W 0 (fun _ => true) true fuel 79 cs = some x) : ∃ q : Dd, cs = ddC q ∧ q.node.path.size ≤ Rows.uptoBulk x.1 := by
  obtain ⟨xs, m, _, hx, hl, hlen, hf⟩ := DataW.trod_struct Tryz.underlying79 h
  rw [ce_Deed] at hl
  obtain ⟨c0, c1, c2, c3, c4, c5, rfl⟩ := six hl
  have hx2 : xs.length = 2 := hlen
  have g0 : DataW.trod enc Tryz.prog W 0 (fun _ => true) true m 4 (([c0, c1, c2, c3, c4, c5].drop 0).take (Tryz.prog.cellsOf 4)) = xs[0]? := hf 0 _ rfl
  have g1 : DataW.trod enc Tryz.prog W 0 (fun _ => true) true m 76 (([c0, c1, c2, c3, c4, c5].drop 1).take (Tryz.prog.cellsOf 76)) = xs[1]? := hf 1 _ rfl
  have b1 : xs[1]? = some xs[1] := List.getElem?_eq_getElem (by omega)
  rw [List.getElem?_eq_getElem (by omega)] at g0 g1
  simp only [ce_bool, ce_Node, List.drop_zero, List.drop_succ_cons, List.take_succ_cons, List.take_zero] at g0 g1
  obtain ⟨t, e0, _⟩ := DataW.trod_bool Tryz.underlying4 g0
  obtain ⟨n, e1, hn⟩ := node_open g1
  simp only [List.cons.injEq, and_true] at e0
  subst e0
  refine ⟨⟨t, n⟩, by rw [e1]; rfl, ?_⟩
  have hb := bulk_field b1
  rw [hx]
  show n.path.size ≤ _
  simp only
  omega
set_option maxRecDepth 100000 in
/-- Deeds within a Turn. -/
theorem deeds_open {fuel : Nat} {v : Value} {x : DataW H × List MemPlace} (h : DataW.trod enc Tryz.prog W 0 (fun _ => true) true fuel 35 [v] = some x) :
    ∃ lo ln lc L, v = .slice lo ln lc ∧ DIn W (.slice lo ln lc) L ∧ L.length ≤ Rows.uptoBulk x.1 ∧ ∀ q ∈ L, q.node.path.size ≤ Rows.uptoBulk x.1 := by
  rcases Go.Deep.open_slice Tryz.underlying35 h with ⟨hcs, _⟩ | ⟨a, len, cap, m, n, D, Pl, hcs, _, hl, hm, hmm, hx, hel⟩
  · simp only [List.cons.injEq, and_true] at hcs
    exact ⟨none, 0, 0, [], hcs, ⟨none, 0, rfl, fun _ => rfl, by simp⟩, by simp, by simp⟩
  · simp only [List.cons.injEq, and_true] at hcs
    have hm2 : m = cap := by simpa using hmm
    have hq : ∀ i, i < len → ∃ q : Dd, (∃ b o, a = ⟨b, o, none⟩ ∧ b < W.heap.size ∧ ∀ j y, (ddC q)[j]? = some y → W.cell? ⟨b, o + i * 6 + j, none⟩ = some y) ∧ q.node.path.size ≤ Rows.uptoBulk (D i) := fun i hi => by
      have hel0 := hel 0 (by omega)
      have heli := hel i (by omega)
      rw [ce_Deed] at hel0 heli
      obtain ⟨cs0, hcs0, ht0⟩ := hel0
      obtain ⟨cs, hcs, ht⟩ := heli
      obtain ⟨q0, rfl, _⟩ := deed_open ht0
      obtain ⟨q, rfl, hqb⟩ := deed_open ht
      have z0 := (World.cells?_some hcs0).2.2 0 (by omega)
      have e : a = ⟨a.block, a.off, none⟩ := by
        refine spot_none (w := W) (v := .bool q0.take) ?_
        have : (a.add (0 * 6)).add 0 = a.add 0 := by simp [Go.Deep.add_add]
        rw [this] at z0
        simpa [ddC] using z0
      have qi := (World.cells?_some hcs).2.2
      have hadd : ∀ j, (a.add (i * 6)).add j = ⟨a.block, a.off + i * 6 + j, none⟩ := fun j => by
        rw [Go.Deep.add_add, e, add_plain]
        simp [Nat.add_assoc]
      have r0 := qi 0 (by omega)
      rw [hadd] at r0
      refine ⟨q, ⟨a.block, a.off, e, World.block_lt_of_cell? W ⟨a.block, a.off + i * 6 + 0, none⟩ (r0.trans rfl), fun j y hy => ?_⟩, hqb⟩
      have hj : j < 6 := (List.getElem?_eq_some_iff.1 hy).1
      have rj := qi j hj
      rw [hadd] at rj
      exact rj.trans hy
    letI : Inhabited Dd := ⟨⟨false, ⟨⟨#[]⟩, 0, 0, 0, ⟨#[]⟩⟩⟩⟩
    obtain ⟨f, hf⟩ := Go.Deep.choose_lt hq
    have hlen : ((List.range len).map f).length = len := by simp
    have hbx : Rows.uptoBulkAll ((List.range len).map D) ≤ Rows.uptoBulk x.1 := by
      rw [hx]
      simp only [Rows.uptoBulk]
      omega
    refine ⟨some a, len, cap, (List.range len).map f, hcs, ⟨some a, cap, by rw [hlen], fun e => by (cases e), fun i q hi => ?_⟩, ?_, fun q hq' => ?_⟩
    · have hi' : i < len := by
        have := (List.getElem?_eq_some_iff.1 hi).1
        omega
      have hfi : f i = q := by
        rw [List.getElem?_map, List.getElem?_range hi'] at hi
        simpa using hi
      obtain ⟨⟨b, o, e, hb, hc⟩, _⟩ := hf i hi'
      rw [hfi] at hc
      exact ⟨b, o, by rw [e], hb, hc⟩
    · have := bulk_many ((List.range len).map D)
      simp at this
      omega
    · obtain ⟨i, hi, rfl⟩ := List.mem_map.1 hq'
      have h1 := (hf i (List.mem_range.1 hi)).2
      have h2 := bulk_mem (List.mem_map_of_mem (f := D) hi)
      omega
/-- A Turn. -/
theorem turn_open {fuel : Nat} {cs : List Value} {x : DataW H × List MemPlace} (h : DataW.trod enc Tryz.prog W 0 (fun _ => true) true fuel 38 cs = some x) :
    ∃ k n s lo ln lc ko kn kc ks L, cs = [.int .i64 k, .int .i64 n, .string s, .slice lo ln lc, .slice ko kn kc] ∧ n ≤ 9223372036854775807 ∧ s.size ≤ Rows.uptoBulk x.1 ∧ IntsAt W (.slice ko kn kc) ks ∧ DIn W (.slice lo ln lc) L ∧ L.length ≤ Rows.uptoBulk x.1 ∧ ∀ q ∈ L, q.node.path.size ≤ Rows.uptoBulk x.1 := by
  obtain ⟨xs, m, _, hx, hl, hlen, hf⟩ := DataW.trod_struct Tryz.underlying38 h
  rw [ce_Turn] at hl
  obtain ⟨c0, c1, c2, c3, c4, rfl⟩ := five hl
  have hx5 : xs.length = 5 := hlen
  have g0 : DataW.trod enc Tryz.prog W 0 (fun _ => true) true m 3 (([c0, c1, c2, c3, c4].drop 0).take (Tryz.prog.cellsOf 3)) = xs[0]? := hf 0 _ rfl
  have g1 : DataW.trod enc Tryz.prog W 0 (fun _ => true) true m 3 (([c0, c1, c2, c3, c4].drop 1).take (Tryz.prog.cellsOf 3)) = xs[1]? := hf 1 _ rfl
  have g2 : DataW.trod enc Tryz.prog W 0 (fun _ => true) true m 9 (([c0, c1, c2, c3, c4].drop 2).take (Tryz.prog.cellsOf 9)) = xs[2]? := hf 2 _ rfl
  have g3 : DataW.trod enc Tryz.prog W 0 (fun _ => true) true m 35 (([c0, c1, c2, c3, c4].drop 3).take (Tryz.prog.cellsOf 35)) = xs[3]? := hf 3 _ rfl
  have g4 : DataW.trod enc Tryz.prog W 0 (fun _ => true) true m 36 (([c0, c1, c2, c3, c4].drop 4).take (Tryz.prog.cellsOf 36)) = xs[4]? := hf 4 _ rfl
  have b2 : xs[2]? = some xs[2] := List.getElem?_eq_getElem (by omega)
  have b3 : xs[3]? = some xs[3] := List.getElem?_eq_getElem (by omega)
  rw [List.getElem?_eq_getElem (by omega)] at g0 g1 g2 g3 g4
  simp only [ce_int, ce_string, ce_deeds, ce_ints, List.drop_zero, List.drop_succ_cons, List.take_succ_cons, List.take_zero] at g0 g1 g2 g3 g4
  obtain ⟨k, e0, _, _⟩ := DataW.trod_int Tryz.underlying3 g0
  obtain ⟨n, e1, _, wn⟩ := DataW.trod_int Tryz.underlying3 g1
  obtain ⟨s, e2, y2, _⟩ := DataW.trod_string Tryz.underlying9 g2
  obtain ⟨lo, ln, lc, L, e3, d3, d4, d5⟩ := deeds_open g3
  obtain ⟨ko, kn, kc, ks, e4, e5⟩ := keep_open g4
  simp only [List.cons.injEq, and_true] at e0 e1 e2
  subst e0 e1 e2 e3 e4
  have hb2 := bulk_field b2
  have hb3 := bulk_field b3
  rw [y2] at hb2
  have ht := bulk_text (H := H) s
  rw [hx]
  simp only at hb2 hb3 ⊢
  exact ⟨k, n, s, lo, ln, lc, ko, kn, kc, ks, L, rfl, (wf_i64 wn).2, by omega, e5, d3, by omega, fun q hq => by have := d5 q hq; omega⟩
set_option maxRecDepth 100000 in
/-- The script. -/
theorem turns_open {fuel : Nat} {a : Option Addr} {len cap : Nat} {x : DataW H × List MemPlace} (h : DataW.trod enc Tryz.prog W 0 (fun _ => true) true fuel 22 [.slice a len cap] = some x) (hb : Rows.uptoBulk x.1 ≤ 1048576) : len ≤ 1048576 ∧ Turns W W.heap.size a len := by
  rcases Go.Deep.open_slice Tryz.underlying22 h with ⟨hcs, _⟩ | ⟨a', len', cap', m, n, D, Pl, hcs, _, hl, hm, hmm, hx, hel⟩
  · simp only [List.cons.injEq, Value.slice.injEq, and_true] at hcs
    obtain ⟨rfl, rfl, rfl⟩ := hcs
    exact ⟨by omega, fun i hi => by omega⟩
  · simp only [List.cons.injEq, Value.slice.injEq, and_true] at hcs
    obtain ⟨rfl, rfl, rfl⟩ := hcs
    have hm2 : m = cap := by simpa using hmm
    have hbx : Rows.uptoBulkAll ((List.range len).map D) ≤ 1048576 := by
      rw [hx] at hb
      simp only [Rows.uptoBulk] at hb
      omega
    have hln : len ≤ 1048576 := by
      have := bulk_many ((List.range len).map D)
      simp at this
      omega
    refine ⟨hln, fun i hi => ?_⟩
    have hDi : Rows.uptoBulk (D i) ≤ 1048576 := Nat.le_trans (bulk_mem (List.mem_map_of_mem (f := D) (List.mem_range.2 hi))) hbx
    have hel0 := hel 0 (by omega)
    have heli := hel i (by omega)
    rw [ce_Turn] at hel0 heli
    obtain ⟨cs0, hcs0, ht0⟩ := hel0
    obtain ⟨cs, hcs, ht⟩ := heli
    obtain ⟨k0, n0, s0, lo0, ln0, lc0, ko0, kn0, kc0, ks0, L0, rfl, _⟩ := turn_open ht0
    obtain ⟨k, n, s, lo, ln, lc, ko, kn, kc, ks, L, rfl, hn, hs, hk, hd, hL, hp⟩ := turn_open ht
    have q0 := (World.cells?_some hcs0).2.2 0 (by omega)
    have e : a' = ⟨a'.block, a'.off, none⟩ := by
      refine spot_none (w := W) (v := .int .i64 k0) ?_
      have : (a'.add (0 * 5)).add 0 = a'.add 0 := by simp [Go.Deep.add_add]
      rw [this] at q0
      simpa using q0
    have qi := (World.cells?_some hcs).2.2
    have hadd : ∀ j, (a'.add (i * 5)).add j = ⟨a'.block, a'.off + i * 5 + j, none⟩ := fun j => by
      rw [Go.Deep.add_add, e, add_plain]
      simp [Nat.add_assoc]
    have r0 := qi 0 (by omega)
    have r1 := qi 1 (by omega)
    have r2 := qi 2 (by omega)
    have r3 := qi 3 (by omega)
    have r4 := qi 4 (by omega)
    rw [hadd] at r0 r1 r2 r3 r4
    simp only at hs hL hp
    exact ⟨a'.block, a'.off, k, n, s, lo, ln, lc, ko, kn, kc, ks, L, by rw [← e], World.block_lt_of_cell? W ⟨a'.block, a'.off + i * 5 + 0, none⟩ (r0.trans rfl), r0.trans rfl, r1.trans rfl, r2.trans rfl, r3.trans rfl, r4.trans rfl, hn, by omega, hk, ints_lt hk, hd, by omega, fun q hq => by have := hp q hq; omega, deeds_lt hd⟩
end

/-- A world that has the tables that the row lists. -/
noncomputable def wL (os : Os) : World := World.laidAll Tryz.prog os Rows.basesUptoRow.laid
def inp : Input := ⟨#[], #[.int .i64 0, .slice none 0 0], []⟩
set_option maxRecDepth 100000 in
theorem shaped (os : Os) : ((wL os).forCall (fun _ _ => 0) inp).Shaped Tryz.checked.prog := World.shaped_of_ZipB (by kernel_rfl) (by kernel_rfl)
set_option maxRecDepth 100000 in
theorem okIn (os : Os) : Input.okWideB Tryz.checked.prog ((wL os).forCall (fun _ _ => 0) inp) 3 inp = true := by kernel_rfl
set_option maxRecDepth 100000 in
theorem laidIn (os : Os) : laidMetH Tryz.prog Rows.basesUptoRow.laid ((wL os).forCall (fun _ _ => 0) inp).memory := by
  rw [MakeChecks.laidMetH_plain _ _ _ (by kernel_rfl)]
  exact laidMet_laidAll _ (by kernel_rfl) (by kernel_rfl)
set_option maxRecDepth 100000 in
theorem reads (os : Os) {H : Type} (enc : TypeId × Value → H) : ∃ places, DataW.whole enc Tryz.prog ((wL os).forCall (fun _ _ => 0) inp).memory Tryz.f3.params.toList Rows.basesSpec.vars false inp.args.toList 8 = some ([.lit (.int .i64 0), .nil], [], places) :=
  ⟨[], by kernel_rfl⟩

set_option maxRecDepth 100000 in
theorem lifted (os : Os) (started : os.Started) (H : Type) (enc : TypeId × Value → H) (F : Stop.Interp) :
    ReturnsInHanded {} Tryz.checked os 3 .any ((Rows.OpenSpec.upto Rows.basesSpec).preRow enc Tryz.prog Tryz.f3 Rows.basesUptoRow.domain false Rows.basesUptoRow.laid) (((Rows.OpenSpec.upto Rows.basesSpec).at F).post enc Tryz.prog Tryz.f3 false true false false) := by
  obtain ⟨places, hx⟩ := reads os enc
  refine returnsInHanded_of_row (C := Tryz.checked) (s := Rows.OpenSpec.upto Rows.basesSpec) own started (by kernel_rfl) Tryz.func3
    ⟨wL os, fun _ _ => 0, inp, World.laidAll_os _ _ _, shaped os, rfl, (Input.okWide_of_okWideB (base := (wL os).heap.size) (okIn os)).2,
      OpenSpec.preRow_of_cond 8 hx (by kernel_rfl) (fun k hk => by cases hk; kernel_rfl) (by kernel_rfl) (laidIn os), by simp [Assume.holds]⟩ ?_
  intro W base args ds gs before hval0 hW _ hcond _ _ _ _
  have hbulk := hcond _ rfl
  have hval : ∀ (j : Nat) t v, Tryz.f3.params[j]? = some t → args[j]? = some v → Value.okWide Tryz.prog W .any base t v := hval0
  have hW' := hW
  obtain ⟨p, q, hA0, hV, rfl, hfz, hnd⟩ := hW
  have hA : DataW.TrodAll enc Tryz.prog W 0 (fun _ => true) true Tryz.f3.params.toList args.toList ds p := hA0
  rw [Tryz.params3] at hA hval
  obtain ⟨v0, vs0, d0, ds0, p0, q0, hargs, rfl, rfl, h0, r0⟩ := trodAll_cons hA
  obtain ⟨v1, vs1, d1, ds1, p1, q1, rfl, rfl, rfl, h1, r1⟩ := trodAll_cons r0
  obtain ⟨rfl, rfl, rfl⟩ := trodAll_nil r1
  obtain rfl : args = #[v0, v1] := by cases args; simp_all
  obtain ⟨rfl, rfl⟩ := trodVars_none hV
  obtain ⟨a0, rfl, rfl, rfl, w0⟩ := open_int Tryz.underlying3 (hval 0 3 v0 rfl rfl) h0
  obtain ⟨a1, len1, cap1, rfl⟩ := okWide_slice Tryz.underlying22 (hval 1 22 v1 rfl rfl)
  have k1 := h1
  have lt1 : ∀ x ∈ p1, x.block < W.heap.size := by obtain ⟨m, hm⟩ := k1; exact DataW.trod_lt m _ _ _ hm
  have hb1 : Rows.uptoBulk d1 ≤ 1048576 := by
    have hd := of_decide_eq_true hbulk
    have := bulk_mem (d := d1) (l := [DataW.lit (.int .i64 a0), d1] ++ []) (by simp)
    exact Nat.le_trans this hd
  obtain ⟨hlen, hD⟩ : len1 ≤ 1048576 ∧ Turns W W.heap.size a1 len1 := by
    obtain ⟨fuel, hf⟩ := h1
    exact turns_open hf hb1
  clear hA0 hval0
  refine (bases_law W a0 a1 len1 cap1 hlen hD).mono fun e W' ⟨he, bel⟩ => ?_
  subst he
  exact ⟨_, rfl, _, _, _, [], _, [], hW', trodAll_mk1 (shut_bool Tryz.underlying4 _), (trodAll_cons_mk (shut_int Tryz.underlying3 w0) (trodAll_cons_mk (Below.trod laidOut (by kernel_rfl) (of_decide_eq_true (by kernel_rfl)) k1 bel lt1) trodAll_mk0)), rfl, bel.frame _, fun h => by cases h⟩

theorem over : Rows.basesUptoRow.holds Tryz.pinned (Rows.OpenSpec.upto Rows.basesSpec) :=
  OpenClaim.holds_of_cond 3 Tryz.f3 rfl rfl rfl rfl rfl rfl rfl ⟨rfl, rfl, rfl, rfl, rfl⟩ rfl rfl rfl rfl rfl (by kernel_rfl) Tryz.func3 (by kernel_rfl)
    (of_decide_eq_true (by kernel_rfl)) (by unfold Func.isWrapper; first | (rw [if_pos (by decide +kernel)]; kernel_rfl) | (rw [if_neg (by decide +kernel)]; exact ⟨rfl, rfl⟩))
    (fun os started H enc _ F => by rw [OpenClaim.pre_eq_preRow]; exact lifted os started H enc F)
end Go.Proofs.YtcbindgpbeaebaaGreatDoor.bases
namespace Go.Proofs.YtcbindgpbeaebaaGreatDoor
theorem bases_row_holds : Rows.BasesUptoSaid := bases.over
#print axioms bases_row_holds
end Go.Proofs.YtcbindgpbeaebaaGreatDoor
