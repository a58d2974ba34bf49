import Derived.Test.YtcbindgpbeaebaaGreatDoorBooB
import Derived.Test.YtcbindgpbeaebaaGreatDoorBooA
import Derived.Test.YtcbindgpbeaebaaGreatDoorRefG
import Derived.Test.YtcbindgpbeaebaaGreatDoorPureL
namespace Go.Proofs.YtcbindgpbeaebaaGreatDoor
open Go.RowKit Go.Deep
attribute [local go_sem ↓] Go.wp_at_zero Go.wp_at_succ

theorem below_drewN {B : Nat} {w w' : World} (h : Below B w w') (n : Nat) : Below B w (w'.drewN n) := ⟨h.os, h.tape, h.output, h.size, h.block⟩
/-- What stands in the loop of 'asDealt'. -/
structure AD (w : World) (g : Nat) (L : List Dd) (k : Nat) (wr : World) (cur : Array Value) : Prop where
  own : wr.heap[g]? = some (.cells cur 79 (0, 0))
  size : cur.size = (L.length + 8) * 6
  is : ∀ (i : Nat) (x : Dd), k ≤ i → L[i]? = some x → EC cur i x
  marks : ∀ i, k ≤ i → L.length ≤ i → i < L.length + 8 → EC cur i markDd
  big : w.heap.size ≤ wr.heap.size
  os : wr.os = w.os
  tape : wr.tape = w.tape
  output : wr.output = w.output
  low : ∀ k, k < w.heap.size → k ≠ g → wr.heap[k]? = w.heap[k]?
def tkDd : Dd := ⟨true, ⟨⟨#[]⟩, 0, 0, 0, ⟨#[]⟩⟩⟩
theorem AD.next {w : World} {g : Nat} {L : List Dd} {k : Nat} {wr W : World} {cur : Array Value} (h : AD w g L k wr cur) (hk : k < L.length + 8) (hb : Below wr.heap.size wr W) :
    ∃ cur', AD w g L (k + 1) ((((((W.setCell ⟨g, k * 6, none⟩ (.bool tkDd.take)).setCell ⟨g, k * 6 + 1, none⟩ (.string tkDd.node.path)).setCell ⟨g, k * 6 + 2, none⟩ (.int .i64 tkDd.node.kind)).setCell ⟨g, k * 6 + 3, none⟩ (.int .i64 tkDd.node.mode)).setCell ⟨g, k * 6 + 4, none⟩ (.int .i64 tkDd.node.tag)).setCell ⟨g, k * 6 + 5, none⟩ (.string tkDd.node.data)) cur' := by
  have hgr : g < wr.heap.size := lt_of_heap h.own
  have ho : W.heap[g]? = some (.cells cur 79 (0, 0)) := (hb.block g hgr).trans h.own
  have hs := h.size
  obtain ⟨_, e2⟩ := ec_set cur k tkDd (by omega)
  refine ⟨_, set6 ho, by simp [hs], fun i x hi hx => e2 i x (by omega) (h.is i x (by omega) hx), fun i hi h1 h2 => e2 i markDd (by omega) (h.marks i (by omega) h1 h2), ?_, ?_, ?_, ?_, fun j hj hjg => ?_⟩
  · have := h.big
    have := hb.size
    simp [World.setCell]
    omega
  · simp [World.setCell, hb.os, h.os]
  · simp [World.setCell, hb.tape, h.tape]
  · simp [World.setCell, hb.output, h.output]
  · rw [Below.heap_setCell _ _ _ _ hjg, Below.heap_setCell _ _ _ _ hjg, Below.heap_setCell _ _ _ _ hjg, Below.heap_setCell _ _ _ _ hjg, Below.heap_setCell _ _ _ _ hjg, Below.heap_setCell _ _ _ _ hjg]
    have := h.big
    exact (hb.block j (by omega)).trans (h.low j hj hjg)

set_option maxRecDepth 100000 in
set_option maxHeartbeats 3200000 in
theorem asDealt_any (w : World) (g : Nat) (a : Addr) (cap : Nat) (L : List Dd) (cur0 : Array Value) (hd : Dl w g L cur0) (h : DIn w (.slice (some a) L.length cap) L) (hL : L.length ≤ 2000000) (hne : ∀ b o, a = ⟨b, o, none⟩ → 0 < L.length → b ≠ g) :
    Calls Tryz.prog 80 #[.slice (some ⟨g, 0, none⟩) L.length (L.length + 8), .slice (some a) L.length cap] w fun e w' => e = .returned (.bool true) ∧ w.heap.size ≤ w'.heap.size ∧ w'.os = w.os ∧ w'.tape = w.tape ∧ w'.output = w.output ∧ ∀ k, k < w.heap.size → k ≠ g → w'.heap[k]? = w.heap[k]? := by
  have heq : ∀ w : World, (binOp BinOp.eql 35 (.slice (some a) L.length cap) (.slice none 0 0)).run Tryz.prog w = .ok (.bool false) w := fun _ => by kernel_rfl
  have hlt0 : (0 : Int) ≤ (L.length : Int) + 8 := by omega
  have hlt8 : (L.length : Int) + 8 ≤ ((L.length + 8 : Nat) : Int) := by omega
  have hg : g < w.heap.size := lt_of_heap hd.own
  have HD := hide h
  have HAD := hide (show AD w g L 0 w cur0 from ⟨hd.own, hd.size, fun i x _ hx => hd.is i x hx, fun i _ h1 h2 => hd.marks i h1 h2, Nat.le_refl _, rfl, rfl, rfl, fun _ _ _ => rfl⟩)
  have HNE := hide hne
  clear h hd hne
  go_enter Tryz.func80, Tryz.ntmps80
  go_wp2_with fail
  go_loopw [6] (fun i wr => ∃ (k : Nat) (cur : Array Value), k ≤ L.length + 8 ∧ i = .int .i64 k ∧ AD w g L k wr cur) (fun i _ => L.length + 8 - (intOf i).toNat)
  case atStart => exact ⟨0, cur0, Nat.zero_le _, rfl, unhide HAD⟩
  case round =>
    obtain ⟨k, cur, hk, rfl, had⟩ := hrel
    by_cases hlt : k < L.length + 8
    · have k0 : (0 : Int) ≤ (k : Int) := Int.natCast_nonneg _
      have k1 : (k : Int) < (L.length : Int) + 8 := by omega
      have k2 : (k : Int) < ((L.length + 8 : Nat) : Int) := by omega
      have hgr : g < wr.heap.size := lt_of_heap had.own
      have zz := fun j => frozen_of_row wr g j _ _ had.own
      have z0 := zz (k * 6)
      have z1 := zz (k * 6 + 1)
      have z2 := zz (k * 6 + 2)
      have z3 := zz (k * 6 + 3)
      have z4 := zz (k * 6 + 4)
      have z5 := zz (k * 6 + 5)
      have nb : ¬ g = wr.heap.size := by omega
      have HNX := hide fun W (hb : Below wr.heap.size wr W) => had.next hlt hb
      have hex : ∃ x, EC cur k x ∧ ((k < L.length ∧ L[k]? = some x) ∨ (¬ k < L.length ∧ x = markDd)) := by
        by_cases hkl : k < L.length
        · exact ⟨L[k], had.is k _ (Nat.le_refl _) (List.getElem?_eq_getElem hkl), .inl ⟨hkl, List.getElem?_eq_getElem hkl⟩⟩
        · exact ⟨markDd, had.marks k (Nat.le_refl _) (by omega) hlt, .inr ⟨hkl, rfl⟩⟩
      obtain ⟨x, hec, hx⟩ := hex
      have cc : ∀ j y, (ddC x)[j]? = some y → wr.cell? ⟨g, k * 6 + j, none⟩ = some y := fun j y hy => by
        rw [cell_of_row wr _ _ _ _ _ had.own]; exact hec j y hy
      have c0 := cc 0 _ rfl
      have c1 := cc 1 _ rfl
      have c2 := cc 2 _ rfl
      have c3 := cc 3 _ rfl
      have c4 := cc 4 _ rfl
      have c5 := cc 5 _ rfl
      rw [Nat.add_zero] at c0
      have HOWN := hide had.own
      have HAD2 := hide had
      clear cc zz had hec
      rcases hx with ⟨hkl, hx⟩ | ⟨hkl, rfl⟩
      · have hbb : ∃ b o, a = ⟨b, o, none⟩ ∧ b < w.heap.size ∧ ∀ j y, (ddC x)[j]? = some y → w.cell? ⟨b, o + k * 6 + j, none⟩ = some y := by
          obtain ⟨ao', cap', hv, _, hd⟩ := unhide HD
          simp only [Value.slice.injEq, true_and] at hv
          obtain ⟨rfl, rfl⟩ := hv
          obtain ⟨b, o, e, h2, h3⟩ := hd k x hx
          exact ⟨b, o, by simpa using e, h2, h3⟩
        obtain ⟨b, o, rfl, hb1, hb2⟩ := hbb
        have hbg := (unhide HNE) b o rfl (by omega)
        have ll : ∀ j y, (ddC x)[j]? = some y → wr.cell? ⟨b, o + k * 6 + j, none⟩ = some y := fun j y hy => (World.cell?_of_block (a := ⟨b, o + k * 6 + j, none⟩) ((unhide HAD2).low b hb1 hbg)).trans (hb2 j y hy)
        have l0 := ll 0 _ rfl
        have l1 := ll 1 _ rfl
        have l2 := ll 2 _ rfl
        have l3 := ll 3 _ rfl
        have l4 := ll 4 _ rfl
        have l5 := ll 5 _ rfl
        rw [Nat.add_zero] at l0
        obtain ⟨W1, hW1⟩ : ∃ W1, W1 = wr.alloc (.cells (ddC markDd).toArray 79) := ⟨_, rfl⟩
        have hbr : b < wr.heap.size := by have := (unhide HAD2).big; omega
        have up : ∀ p : Addr, p.block < wr.heap.size → W1.cell? p = wr.cell? p := fun p hp => by rw [hW1]; exact World.cell?_of_block (Below.heap_alloc _ _ _ hp)
        have w0 := (up ⟨b, o + k * 6, none⟩ hbr).trans l0
        have w1 := (up ⟨b, o + k * 6 + 1, none⟩ hbr).trans l1
        have w2 := (up ⟨b, o + k * 6 + 2, none⟩ hbr).trans l2
        have w3 := (up ⟨b, o + k * 6 + 3, none⟩ hbr).trans l3
        have w4 := (up ⟨b, o + k * 6 + 4, none⟩ hbr).trans l4
        have w5 := (up ⟨b, o + k * 6 + 5, none⟩ hbr).trans l5
        have v0 := (up ⟨g, k * 6, none⟩ hgr).trans c0
        have v1 := (up ⟨g, k * 6 + 1, none⟩ hgr).trans c1
        have v2 := (up ⟨g, k * 6 + 2, none⟩ hgr).trans c2
        have v3 := (up ⟨g, k * 6 + 3, none⟩ hgr).trans c3
        have v4 := (up ⟨g, k * 6 + 4, none⟩ hgr).trans c4
        have v5 := (up ⟨g, k * 6 + 5, none⟩ hgr).trans c5
        have bW1 : W1.heap[wr.heap.size]? = some (.cells #[.bool false, .string ⟨#[126]⟩, .int .i64 77, .int .i64 0, .int .i64 0, .string ⟨#[]⟩] 79 (0, 0)) := by rw [hW1]; exact heap_alloc_new wr _
        obtain ⟨t0, t1, t2, t3, t4, t5⟩ := six_cells bW1
        have tz := fun j => frozen_of_row W1 wr.heap.size j _ _ bW1
        have tz0 := tz 0
        have tz1 := tz 1
        have tz2 := tz 2
        have tz3 := tz 3
        have tz4 := tz 4
        have tz5 := tz 5
        have hbW1 : Below wr.heap.size wr W1 := by rw [hW1]; exact below_new wr _
        have HBW := hide hbW1
        have hW1' : W1 = wr.alloc (.cells #[.bool false, .string ⟨#[126]⟩, .int .i64 77, .int .i64 0, .int .i64 0, .string ⟨#[]⟩] 79) := hW1
        rw [hW1'] at w0 w1 w2 w3 w4 w5 v0 v1 v2 v3 v4 v5 t0 t1 t2 t3 t4 t5 tz0 tz1 tz2 tz3 tz4 tz5
        clear up bW1 tz hbW1 hW1 hW1'
        have k3 : (k : Int) < (L.length : Int) := by omega
        have nb2 : ¬ b = wr.heap.size := by have := (unhide HAD2).big; omega
        clear ll hb2 hx
        go_wp2_with fail
        go_quiet (fail)
        go_wp2_with fail
        go_roundw
        case rel =>
          obtain ⟨cur', hA⟩ := (unhide HNX) ((wr.alloc (.cells (ddC x).toArray 79)).drewN nq) (below_drewN (below_new wr _) nq)
          exact ⟨k + 1, cur', by omega, by go_num, hA⟩
        case measure => simp [intOf]; omega
      · have k3 : ¬ ((k : Int) < (L.length : Int)) := by omega
        obtain ⟨W1, hW1⟩ : ∃ W1, W1 = wr.alloc (.cells (ddC markDd).toArray 79) := ⟨_, rfl⟩
        have up : ∀ p : Addr, p.block < wr.heap.size → W1.cell? p = wr.cell? p := fun p hp => by rw [hW1]; exact World.cell?_of_block (Below.heap_alloc _ _ _ hp)
        have v0 := (up ⟨g, k * 6, none⟩ hgr).trans c0
        have v1 := (up ⟨g, k * 6 + 1, none⟩ hgr).trans c1
        have v2 := (up ⟨g, k * 6 + 2, none⟩ hgr).trans c2
        have v3 := (up ⟨g, k * 6 + 3, none⟩ hgr).trans c3
        have v4 := (up ⟨g, k * 6 + 4, none⟩ hgr).trans c4
        have v5 := (up ⟨g, k * 6 + 5, none⟩ hgr).trans c5
        have bW1 : W1.heap[wr.heap.size]? = some (.cells #[.bool false, .string ⟨#[126]⟩, .int .i64 77, .int .i64 0, .int .i64 0, .string ⟨#[]⟩] 79 (0, 0)) := by rw [hW1]; exact heap_alloc_new wr _
        obtain ⟨t0, t1, t2, t3, t4, t5⟩ := six_cells bW1
        have hW1' : W1 = wr.alloc (.cells #[.bool false, .string ⟨#[126]⟩, .int .i64 77, .int .i64 0, .int .i64 0, .string ⟨#[]⟩] 79) := hW1
        rw [hW1'] at v0 v1 v2 v3 v4 v5 t0 t1 t2 t3 t4 t5
        simp only [markDd] at v0 v1 v2 v3 v4 v5 c0 c1 c2 c3 c4 c5
        clear up bW1 hW1 hW1'
        go_wp2_with fail
        go_quiet (fail)
        go_wp2_with fail
        go_roundw
        case rel =>
          obtain ⟨cur', hA⟩ := (unhide HNX) ((wr.alloc (.cells (ddC markDd).toArray 79)).drewN nq) (below_drewN (below_new wr _) nq)
          exact ⟨k + 1, cur', by omega, by go_num, hA⟩
        case measure => simp [intOf]; omega
    · have hk8 : k = L.length + 8 := by omega
      subst hk8
      have k1 : ¬ (((L.length + 8 : Nat) : Int) < (L.length : Int) + 8) := by omega
      have HP := hide (And.intro had.big (And.intro had.os (And.intro had.tape (And.intro had.output had.low))))
      clear had
      go_wp2_with fail
      go_ret
      exact ⟨rfl, unhide HP⟩
end Go.Proofs.YtcbindgpbeaebaaGreatDoor

namespace Go.Proofs.YtcbindgpbeaebaaGreatDoor
open Go.RowKit Go.Deep

/-- What blocks that are sure tell: nodes. -/
structure Cont (S : List ByteArray) (M : List Pl) : Prop where
  mo : MOk M
  slots : SlotsOf (fun i => rd S (90 + i)) M
  sz : ∀ i, i < 120 → (rd S (90 + i)).size = 256
theorem Cont.outA {S S2 : List ByteArray} {M : List Pl} (h : Cont S M) (hA : OutA S S2) (hN : 300 ≤ S.length) : Cont S2 M :=
  ⟨h.mo, h.slots.congr fun i hi => hA.2 i (by omega), fun i hi => by rw [hA.2 i (by omega)]; exact h.sz i hi⟩
/-- Nodes that a transaction would leave. -/
structure Twos (S : List ByteArray) (ps : List (Nat × ByteArray)) (M : List Pl) : Prop where
  mo : MOk M
  slots : SlotsOf (ov (fun i => rd S (90 + i)) ps) M
theorem Twos.outC {S S2 : List ByteArray} {ps : List (Nat × ByteArray)} {M M2 : List Pl} (h : Twos S ps M2) (hc : Cont S M) (hz : ∀ p ∈ ps, p.2.size = 256) (hC : OutC S ps S2) (hN : 300 ≤ S.length) : Cont S2 M2 := by
  refine ⟨h.mo, h.slots.congr fun i hi => ?_, fun i hi => ?_⟩
  · rw [hC.2 i (by omega)]; rfl
  · rw [hC.2 i (by omega)]
    cases hk : lastOf ps i with
    | none => exact hc.sz i hi
    | some s => exact lastOf_key hk hz
theorem Cont.load {d : Dk} {M : List Pl} (h : Cont d.safe M) : loadM (vw d) 60 = M := load_eq h.slots h.mo.ord
theorem Cont.good {S : List ByteArray} {M : List Pl} (h : Cont S M) : Good M := h.slots.good
theorem ifs_err (a b c d : Prop) [Decidable a] [Decidable b] [Decidable c] [Decidable d] (q : Int) (h : q = if a then 4 else if b then 6 else if c then 6 else if d then 8 else 0) : q = 0 ∨ q = 4 ∨ q = 6 ∨ q = 8 := by
  subst h
  by_cases ha : a
  · simp [ha]
  · by_cases hb : b
    · simp [ha, hb]
    · by_cases hc : c
      · simp [ha, hb, hc]
      · by_cases hd : d <;> simp [ha, hb, hc, hd]
theorem rPut_err4 (l : List Nd) (n : Nd) : rPutErr l n = 0 ∨ rPutErr l n = 4 ∨ rPutErr l n = 6 ∨ rPutErr l n = 8 := ifs_err _ _ _ _ _ rfl
theorem rOne_err4 (l : List Nd) (x : Dd) : (rOne l x).2 = 0 ∨ (rOne l x).2 = 4 ∨ (rOne l x).2 = 6 ∨ (rOne l x).2 = 8 := by
  have hp := rPut_err4 l x.node
  unfold rOne
  generalize rPutErr l x.node = q at hp ⊢
  by_cases ht : x.take = true
  · rw [if_pos ht]
    by_cases hf : findN l x.node.path = none
    · rw [if_pos hf]; exact .inr (.inl rfl)
    · rw [if_neg hf]; exact .inl rfl
  · rw [if_neg ht]
    by_cases hq : q ≠ 0
    · rw [if_pos hq]; exact hp
    · rw [if_neg hq]; exact .inl rfl
theorem rAll_err (l0 : List Nd) : ∀ (L : List Dd) (l : List Nd), (rAll l0 l L).2 = 0 ∨ (rAll l0 l L).2 = 4 ∨ (rAll l0 l L).2 = 6 ∨ (rAll l0 l L).2 = 8
  | [], l => .inl rfl
  | x :: r, l => by
    unfold rAll
    split
    · exact rOne_err4 l x
    · exact rAll_err l0 r _
theorem rDo_err (l : List Nd) (L : List Dd) : (rDo l L).2 ≠ 9 := by
  unfold rDo
  split
  · have := rAll_err l L l
    omega
  · show (1 : Int) ≠ 9
    decide
/-- What a Do on a base that is well leaves. -/
inductive DoSum (M : List Pl) (L : List Dd) (d : Dk) (c : Int) (br' : Bool) (d' : Dk) : Prop
  | err (h : c ≠ 0) (h9 : c ≠ 9) (hd : d' = d) (hb : br' = false) (hr : rDo (nodesOf M) L = (nodesOf M, c))
  | ok (M1 : List Pl) (h : c = 0) (hb : br' = false) (hr : rDo (nodesOf M) L = (nodesOf M1, 0)) (hc : Cont d'.safe M1) (hl : d'.late = []) (hclr : rd d'.safe 0 = pad (recB [])) (hok : d'.Ok) (hf : d'.failed ≤ d.failed + 1) (hn : d'.safe.length = d.safe.length)
  | bad (M1 : List Pl) (ps : List (Nat × ByteArray)) (h : c = 9) (hb : br' = true) (hr : rDo (nodesOf M) L = (nodesOf M1, 0)) (ht : Twos d.safe ps M1) (hp : Pend d.safe ps d') (h0 : 0 < ps.length) (h80 : ps.length ≤ 80) (hlt : ∀ p ∈ ps, 90 + p.1 < d.safe.length) (hz : ∀ p ∈ ps, p.2.size = 256) (hok : d'.Ok) (hf : d'.failed ≤ d.failed + 1) (hf1 : d.failed < d'.failed) (hn : d'.safe.length = d.safe.length) (hl : d'.late.length ≤ 80)
theorem DoEnd.sum {M : List Pl} {L : List Dd} {d : Dk} {c : Int} {br' : Bool} {d' : Dk} (h : DoEnd M L d c br' d') (hc : Cont d.safe M) (ok : d.Ok) (hl : d.late = []) (hclr : rd d.safe 0 = pad (recB [])) (hf : d.failed + 1 ≤ 9223372036854775806) (hN : 300 ≤ d.safe.length) : DoSum M L d c br' d' := by
  rcases h.ref hc.mo hc.good with ⟨h0, hb, hd, hr⟩ | ⟨hok, M1, ps1, hch, hr, hg, ec, eb, ed⟩
  · have h9 := rDo_err (nodesOf M) L
    rw [hr] at h9
    exact .err h0 h9 hd hb hr
  · obtain ⟨h12, hall⟩ := okDeeds_all hok
    obtain ⟨mo1, pb⟩ := hch.ok (fun x hx => okDeed_fit (hall x hx)) hc.mo (PsB.nil 0)
    have hs := hch.slots (V := fun i => rd d.safe (90 + i)) hall (fun x hx => okDeed_fit (hall x hx)) hc.mo (PsB.nil 0) (hc.slots.congr fun i _ => rfl)
    have hb4 : ∀ p ∈ ps1, 90 + p.1 < d.safe.length := fun p hp => by
      have := pb.lt p.1 (List.mem_map_of_mem hp)
      omega
    by_cases h0 : ps1.length = 0
    · have e : commitL d ps1 false = (0, d, false) := by unfold commitL; rw [if_neg (by simp), if_pos h0]
      rw [e] at ec eb ed
      have hp0 : ps1 = [] := List.length_eq_zero_iff.1 h0
      subst hp0
      dsimp only at ec eb ed
      subst ed
      exact .ok M1 ec eb hr ⟨mo1, hs.congr fun i _ => rfl, hc.sz⟩ hl hclr ok (by omega) rfl
    · have hlen := pb.len
      obtain ⟨c1, c2, c3, c4, _, c6⟩ := commit_crash d ps1 ok (by omega) hl (by omega) (by omega) (by omega) hb4 pb.sz hclr
      rcases c6 with ⟨k1, k2, _⟩ | ⟨k1, k2, k3, k4, k5⟩
      · have hpe := commit_pend d ps1 ok (by omega) hl (by omega) (by omega) (by omega) hb4 pb.sz hclr k1
        have hfe := commit_fe d ps1 ok (by omega) hl (by omega) (by omega) (by omega) hb4 k1
        subst ed
        exact .bad M1 ps1 (by rw [ec, k1]) (by rw [eb, k2]) hr ⟨mo1, hs⟩ hpe (by omega) (by omega) hb4 pb.sz c1 c2 hfe c3 c4
      · subst ed
        exact .ok M1 (by rw [ec, k1]) (by rw [eb, k2]) hr ((Twos.mk mo1 hs : Twos d.safe ps1 M1).outC hc pb.sz k5 hN) k3 k5.1 c1 c2 c3
end Go.Proofs.YtcbindgpbeaebaaGreatDoor
