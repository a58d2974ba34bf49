import Derived.Test.YtcbindgpbeaebaaRefC
namespace Go.Proofs.Ytcbindgpbeaebaa
open Go.RowKit Go.Deep
attribute [local go_sem ↓] Go.wp_at_zero Go.wp_at_succ

/-- (Log).Done -/
def doneS (s : List (Nat × ByteArray)) (ps : List (Nat × ByteArray)) : List (Nat × ByteArray) := ps.foldl (fun s p => withR s p.1 p.2) s
def doneR (R : Rf) : Rf := { R with sure := doneS R.sure R.put, put := [] }
theorem doneS_snoc (s l : List (Nat × ByteArray)) (p : Nat × ByteArray) : doneS s (l ++ [p]) = withR (doneS s l) p.1 p.2 := by simp [doneS]
theorem doneS_len (l : List (Nat × ByteArray)) : ∀ s, (doneS s l).length ≤ s.length + l.length := by
  induction l with
  | nil => intro s; simp [doneS]
  | cons p r ih =>
    intro s
    have h1 := ih (withR s p.1 p.2)
    have h2 := filter_len s p.1
    have e : doneS s (p :: r) = doneS (withR s p.1 p.2) r := rfl
    rw [e]
    simp only [withR, List.length_cons] at h1 ⊢
    omega

theorem done_round {w w3 wr w4 : World} {R : Rf} {k : Nat} {p : Nat × ByteArray} {vo ao4 po3 : Option Addr} {vcap cap4 pcap3 : Nat} (hts : R.put.take (k + 1) = R.put.take k ++ [p]) (hlt : k < R.put.length)
    (ho4 : w4.ownsRow wr.drew.heap.size 84 2 (.slice ao4 (withR (doneS R.sure (R.put.take k)) p.1 p.2).length cap4) (withR (doneS R.sure (R.put.take k)) p.1 p.2).length (flat (withR (doneS R.sure (R.put.take k)) p.1 p.2)))
    (bO4 : w4.heap[w3.heap.size]? = some (.cells #[.int .i64 R.many, .slice vo (doneS R.sure (R.put.take k)).length vcap, .slice po3 R.put.length pcap3] 30 (0, 0)))
    (bel4 : Below wr.drew.heap.size wr.drew w4) (hb : Below w3.heap.size w3 wr) (hsz : w3.heap.size < wr.heap.size) (hw : w.heap.size ≤ w3.heap.size := by omega) :
    ∃ (k' : Nat) (v : Value), k' ≤ R.put.length ∧ Value.int .i64 ((k : Int) + 1) = .int .i64 k' ∧ (w4.setCell ⟨w3.heap.size, 1, none⟩ (.slice ao4 (withR (doneS R.sure (R.put.take k)) p.1 p.2).length cap4)).heap[w3.heap.size]? = some (.cells #[.int .i64 R.many, v, .slice po3 R.put.length pcap3] 30 (0, 0)) ∧
      (w4.setCell ⟨w3.heap.size, 1, none⟩ (.slice ao4 (withR (doneS R.sure (R.put.take k)) p.1 p.2).length cap4)).ownsRow w.heap.size 84 2 v (doneS R.sure (R.put.take k')).length (flat (doneS R.sure (R.put.take k'))) ∧ Below w3.heap.size w3 (w4.setCell ⟨w3.heap.size, 1, none⟩ (.slice ao4 (withR (doneS R.sure (R.put.take k)) p.1 p.2).length cap4)) ∧ w3.heap.size < (w4.setCell ⟨w3.heap.size, 1, none⟩ (.slice ao4 (withR (doneS R.sure (R.put.take k)) p.1 p.2).length cap4)).heap.size := by
  have e : wr.drew.heap.size = wr.heap.size := rfl
  refine ⟨k + 1, .slice ao4 (withR (doneS R.sure (R.put.take k)) p.1 p.2).length cap4, by omega, by simp, ?_, ?_, ?_, ?_⟩
  · rw [heap_setCell_same w4 _ 1 _ _ _ bO4]; rfl
  · rw [hts, doneS_snoc]
    exact ownsRow_base (ownsRow_set ho4 _ (ownsRow_ne ho4 bO4 (by decide)) _) (by omega)
  · exact (hb.drew.trans (bel4.mono (by omega))).setCell (Nat.le_refl _) _
  · have := bel4.size
    simp only [World.setCell, Array.size_modify]
    omega
set_option maxRecDepth 100000 in
set_option maxHeartbeats 6400000 in
theorem done_any (B : Nat) (w : World) (R : Rf) (sv pv : Value) (h : RAt B w R sv pv) (hsl : R.sure.length ≤ 400000) (hpl : R.put.length ≤ 400000) :
    Calls Try.prog 42 #[.agg #[.int .i64 R.many, sv, pv]] w fun e w' => ∃ sv', e = .returned (.agg #[.int .i64 R.many, sv', .slice none 0 0]) ∧ RAt w.heap.size w' (doneR R) sv' (.slice none 0 0) ∧ Below w.heap.size w w' := by
  obtain ⟨so, scap, hsv⟩ := ownsRow_form h.sure.base0
  obtain ⟨po, pcap, hpv⟩ := ownsRow_form h.put.base0
  subst hsv hpv
  obtain ⟨k0, k1, ks⟩ := heap_pair w (.cells #[.int .i64 R.many, .slice so R.sure.length scap, .slice po R.put.length pcap] 30) (.cells #[.int .i64 0, .slice none 0 0, .slice none 0 0] 30)
  have hA := (h.alloc (.cells #[.int .i64 R.many, .slice so R.sure.length scap, .slice po R.put.length pcap] 30)).alloc (.cells #[.int .i64 0, .slice none 0 0, .slice none 0 0] 30)
  have bA : Below w.heap.size w ((w.alloc (.cells #[.int .i64 R.many, .slice so R.sure.length scap, .slice po R.put.length pcap] 30)).alloc (.cells #[.int .i64 0, .slice none 0 0, .slice none 0 0] 30)) := ((Below.refl _ _).alloc (Nat.le_refl _) _).alloc (by simp) _
  have K0 := hide k0
  have K1 := hide k1
  have KS := hide ks
  have HA := hide hA
  have HBA := hide bA
  clear k0 k1 ks hA bA
  go_enter Try.func42, Try.ntmps42
  go_wp2_with fail
  refine (rCopy_any B _ R (.slice so R.sure.length scap) (.slice po R.put.length pcap) (unhide HA)).mono ?_
  rintro e w3 ⟨sv3, pv3, rfl, h3, bel3⟩
  obtain ⟨so3, scap3, hsv3⟩ := ownsRow_form h3.sure.base0
  obtain ⟨po3, pcap3, hpv3⟩ := ownsRow_form h3.put.base0
  subst hsv3 hpv3
  rw [unhide KS] at h3 bel3
  have s3 : w.heap.size + 2 ≤ w3.heap.size := by have := bel3.size; rw [unhide KS] at this; exact this
  have b0 := (bel3.block w.heap.size (by omega)).trans (unhide K0)
  have b1 := (bel3.block (w.heap.size + 1) (by omega)).trans (unhide K1)
  have hP := ownsRow_below (unhide HA).put.base0 bel3 (by rw [unhide KS]; omega)
  have bel : Below w.heap.size w w3 := (unhide HBA).trans (bel3.mono (by omega))
  have HP := hide hP
  have H3 := hide h3
  have HB0 := hide b0
  have HB1 := hide b1
  have HBEL := hide bel
  clear hP h3 b0 b1 bel bel3 HA HBA K0 K1 KS
  go_wp2_with fail
  go_loopw [4] (fun i wr => ∃ (k : Nat) (v : Value), k ≤ R.put.length ∧ i = .int .i64 k ∧ wr.heap[w3.heap.size]? = some (.cells #[.int .i64 R.many, v, .slice po3 R.put.length pcap3] 30 (0, 0)) ∧ wr.ownsRow w.heap.size 84 2 v (doneS R.sure (R.put.take k)).length (flat (doneS R.sure (R.put.take k))) ∧ Below w3.heap.size w3 wr ∧ w3.heap.size < wr.heap.size) (fun i _ => R.put.length - (intOf i).toNat)
  case atStart =>
    refine ⟨0, .slice so3 R.sure.length scap3, Nat.zero_le _, rfl, heap_alloc_new w3 _, ?_, (Below.refl _ _).alloc (Nat.le_refl _) _, by simp⟩
    exact ownsRow_base ((unhide H3).sure.alloc _) (by omega)
  case round =>
    obtain ⟨k, v, hk, rfl, bO, hown, hb, hsz⟩ := hrel
    obtain ⟨vo, vcap, hv⟩ := ownsRow_form hown.base0
    subst hv
    have c0 := (three_cells ((hb.block w.heap.size (by omega)).trans (unhide HB0))).2.2.1
    obtain ⟨o0, o1, o2, oz0, oz1, oz2⟩ := three_cells bO
    have hdl := doneS_len (R.put.take k) R.sure
    have htl : (R.put.take k).length ≤ R.put.length := by rw [List.length_take]; omega
    by_cases hlt : k < R.put.length
    · obtain ⟨p, hp⟩ : ∃ p, R.put[k]? = some p := ⟨R.put[k], List.getElem?_eq_getElem hlt⟩
      obtain ⟨g, capx, he, cA, cB, lg⟩ := row_at (unhide HP) k p hp
      have hpo : po = some ⟨g, 0, none⟩ := by
        simp only [Value.slice.injEq] at he
        exact he.1
      subst hpo
      clear he
      have cA' := (hb.cell (p := ⟨g, k * 2, none⟩) lg).trans cA
      have cB' := (hb.cell (p := ⟨g, k * 2 + 1, none⟩) lg).trans cB
      have hts : R.put.take (k + 1) = R.put.take k ++ [p] := by rw [List.take_add_one, hp]; rfl
      have HTS := hide hts
      have i0 : (0 : Int) ≤ (k : Int) := Int.natCast_nonneg _
      have i1 : (k : Int) < (R.put.length : Int) := by omega
      have HO := hide hown
      have HBO := hide bO
      have HB := hide hb
      have hdl' : (doneS R.sure (R.put.take k)).length ≤ 900000 := by omega
      clear hts hp hown bO hb hdl htl
      go_wp2_with fail
      go_region_with ((go_at_call 39; refine (with_any _ (.slice vo (doneS R.sure (R.put.take k)).length vcap) (doneS R.sure (R.put.take k)) p.1 p.2 ?_ ?_).mono ?_; (· exact (unhide HO).base0.drew); (· omega); rintro e w4 ⟨v4, rfl, ho4, bel4⟩; obtain ⟨ao4, cap4, hv4⟩ := ownsRow_form ho4.base0; subst hv4; have bO4 := (bel4.block w3.heap.size (by show _ < wr.heap.size; omega)).trans (unhide HBO); obtain ⟨r20, r21, r22, t20, t21, t22⟩ := three_cells bO4; have HO4 := hide ho4; have HBEL4 := hide bel4; have HBO4 := hide bO4; clear ho4 bel4 bO4))
      all_goals
        go_wp2
        go_roundw
        case rel => exact done_round HTS.out hlt (unhide HO4) (unhide HBO4) (unhide HBEL4) (unhide HB) hsz
        case measure => simp [intOf]; omega
    · have hk' : R.put.take k = R.put := List.take_of_length_le (by omega)
      rw [hk'] at hown
      have b1r := (hb.block (w.heap.size + 1) (by omega)).trans (unhide HB1)
      obtain ⟨d10, d11, d12, y10, y11, y12⟩ := three_cells b1r
      have n1 : (Value.slice vo (doneS R.sure (R.put.take k)).length vcap).ownBlock ≠ some (w.heap.size + 1) := by rw [hk']; exact ownsRow_ne hown b1r (by decide)
      have n3 : (Value.slice vo (doneS R.sure (R.put.take k)).length vcap).ownBlock ≠ some w3.heap.size := by rw [hk']; exact ownsRow_ne hown bO (by decide)
      rw [hk'] at n1 n3 o1 bO
      have hll := doneS_len R.put R.sure
      have HO := hide hown
      have HB := hide hb
      have HN1 := hide n1
      have HN3 := hide n3
      clear hown hb n1 n3 bO b1r hdl hk'
      go_wp2_with fail
      have bl : Below w.heap.size w wr := (unhide HBEL).trans ((unhide HB).mono (by omega))
      refine bodyPost_ret (v := .agg #[.int .i64 R.many, .slice vo (doneS R.sure R.put).length vcap, .slice none 0 0]) (by simp [results, Try.results42, go_sem, *]) rfl ⟨_, rfl, ⟨?_, World.ownsRow_nil _ _ _ _, by simp only [doneR]; omega, by simp [doneR]⟩, ?_⟩
      · exact ownsRow_set (ownsRow_set (ownsRow_set (ownsRow_set (unhide HO) _ (unhide HN3) _) _ (unhide HN1) _) _ (unhide HN1) _) _ (unhide HN1) _
      · exact (((bl.setCell (by simp; omega) _).setCell (by simp) _).setCell (by simp) _).setCell (by simp) _
end Go.Proofs.Ytcbindgpbeaebaa
