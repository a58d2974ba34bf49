import Derived.Test.YtcbindgpbeaebaaRefB
namespace Go.Proofs.Ytcbindgpbeaebaa
open Go.RowKit Go.Deep
attribute [local go_sem ↓] Go.wp_at_zero Go.wp_at_succ

/-- Where a list lies: as it was, or in new memory. -/
def Frs (w : World) (v v' : Value) : Prop := ∀ g, v'.ownBlock = some g → v.ownBlock = some g ∨ w.heap.size ≤ g
theorem Frs.refl (w : World) (v : Value) : Frs w v v := fun _ h => .inl h
theorem Frs.new {w w' : World} {v v' : Value} {e : TypeId} {size n : Nat} {xs : List Value} (h : w'.ownsRow w.heap.size e size v' n xs) : Frs w v v' := fun g hg => .inr (h.lt g hg).1

theorem conv_n (w : World) (n : Nat) : (convert 76 9 (.slice (some ⟨w.heap.size, 0, none⟩) n n)).run Try.prog (w.alloc (.cells (madeCells #[.int .u8 0] n) 5)).drew = .ok (.string (zs n)) (w.alloc (.cells (madeCells #[.int .u8 0] n) 5)).drew := by
  have this := run_convert_bytes_back (P := Try.prog) (w.alloc (.cells (madeCells #[.int .u8 0] n) 5)).drew 76 9 5 ⟨w.heap.size, 0, none⟩ n (List.replicate n 0) Try.underlying76 Try.underlying5 Try.underlying9 (fun j hj => by
    have hh : (w.alloc (.cells (madeCells #[.int .u8 0] n) 5)).drew.heap[w.heap.size]? = some (.cells (madeCells #[.int .u8 0] n) 5) := heap_alloc_new w _
    rw [addr0, cell_of_row _ _ _ _ _ _ hh, ← Array.getElem?_toList, toList_madeCells_one]
    rw [List.length_replicate] at hj
    rw [List.getElem?_replicate, if_pos hj, List.getElem_replicate]
    rfl)
  rw [List.length_replicate] at this
  exact this

set_option maxRecDepth 100000 in
set_option maxHeartbeats 3200000 in
theorem rPut_any (B : Nat) (w : World) (R : Rf) (sv pv : Value) (a : Int) (s : ByteArray) (h : RAt B w R sv pv) (hB : B ≤ w.heap.size) (hpl : R.put.length ≤ 800000) :
    Calls Try.prog 21 #[.agg #[.int .i64 R.many, sv, pv], .int .i64 a, .string s] w fun e w' => ∃ sv' pv', e = .returned (.tuple #[.agg #[.int .i64 R.many, sv', pv'], .int .i64 (putR R a s).2]) ∧ RAt B w' (putR R a s).1 sv' pv' ∧ Frs w sv sv' ∧ Frs w pv pv' ∧ Below w.heap.size w w' := by
  obtain ⟨so, scap, hsv⟩ := ownsRow_form h.sure.base0
  obtain ⟨po, pcap, hpv⟩ := ownsRow_form h.put.base0
  subst hsv hpv
  obtain ⟨k0, k1, ks⟩ := heap_pair w (.cells #[.int .i64 R.many, .slice so R.sure.length scap, .slice po R.put.length pcap] 30) (.cells #[.int .i64 0, .slice none 0 0, .slice none 0 0] 30)
  have K0 := hide k0
  have K1 := hide k1
  have KS := hide ks
  have hA := (h.alloc (.cells #[.int .i64 R.many, .slice so R.sure.length scap, .slice po R.put.length pcap] 30)).alloc (.cells #[.int .i64 0, .slice none 0 0, .slice none 0 0] 30)
  have bA : Below w.heap.size w ((w.alloc (.cells #[.int .i64 R.many, .slice so R.sure.length scap, .slice po R.put.length pcap] 30)).alloc (.cells #[.int .i64 0, .slice none 0 0, .slice none 0 0] 30)) := ((Below.refl _ _).alloc (Nat.le_refl _) _).alloc (by simp) _
  have HA := hide hA
  have HBA := hide bA
  clear k0 k1 ks hA bA
  by_cases hbad : isR R.many a = false ∨ 256 < s.size
  · have HR : Hid (putR R a s = (R, 1)) := by show putR R a s = _; rw [putR, if_pos hbad]
    have hc : isR R.many a = false ∨ (isR R.many a = true ∧ (256 : Int) < (s.size : Int)) := by
      cases hi : isR R.many a
      · exact .inl rfl
      · rw [hi] at hbad; simp at hbad; exact .inr ⟨rfl, by omega⟩
    clear hbad
    go_enter Try.func21, Try.ntmps21
    go_wp2_with fail
    refine (rIs_any _ R.many (.slice so R.sure.length scap) (.slice po R.put.length pcap) a).mono ?_
    rintro e w1 ⟨rfl, o, rfl⟩
    have b0 := three_alloc (unhide K0) o
    have b1 := three_alloc (unhide K1) o
    obtain ⟨a00, a01, a02, z00, z01, z02⟩ := three_cells b0
    obtain ⟨d10, d11, d12, y10, y11, y12⟩ := three_cells b1
    have hF := (unhide HA).alloc o
    have HF := hide hF
    have HB1 := hide b1
    clear b0 b1 hF
    rcases hc with hc | ⟨hc, hs⟩
    · rw [hc]
      clear hc
      go_wp2_with fail
      refine bodyPost_ret (v := .tuple #[.agg #[.int .i64 R.many, .slice so R.sure.length scap, .slice po R.put.length pcap], .int .i64 1]) (by simp [results, Try.results21, go_sem, *]) rfl ⟨_, _, by rw [unhide HR], ?_, Frs.refl _ _, Frs.refl _ _, ?_⟩
      · rw [unhide HR]; exact ((h.alloc _).alloc _).alloc _
      · exact (((Below.refl _ _).alloc (Nat.le_refl _) _).alloc (by simp) _).alloc (by simp; omega) _
    · rw [hc]
      clear hc
      go_wp2_with fail
      refine bodyPost_ret (v := .tuple #[.agg #[.int .i64 R.many, .slice so R.sure.length scap, .slice po R.put.length pcap], .int .i64 1]) (by simp [results, Try.results21, go_sem, *]) rfl ⟨_, _, by rw [unhide HR], ?_, Frs.refl _ _, Frs.refl _ _, ?_⟩
      · rw [unhide HR]; exact ((h.alloc _).alloc _).alloc _
      · exact (((Below.refl _ _).alloc (Nat.le_refl _) _).alloc (by simp) _).alloc (by simp; omega) _
  · have hi : isR R.many a = true := by
      cases hi : isR R.many a
      · exact absurd (.inl hi) hbad
      · rfl
    have hs : ¬ 256 < s.size := fun e => hbad (.inr e)
    have hs' : ¬ (256 : Int) < (s.size : Int) := by omega
    have ha : 0 ≤ a := by simp [isR] at hi; omega
    obtain ⟨k, rfl⟩ := Int.eq_ofNat_of_zero_le ha
    by_cases hfull : lookR R.put (k : Int) = none ∧ 80 ≤ R.put.length
    · have HR : Hid (putR R k s = (R, 8)) := by show putR R k s = _; rw [putR, if_neg hbad, if_pos hfull]
      have HG : Hid (gotR R.put (k : Int) = (⟨#[]⟩, false)) := by show gotR R.put (k : Int) = _; rw [gotR, hfull.1]
      have hf' : (80 : Int) ≤ (R.put.length : Int) := by have := hfull.2; omega
      have HI := hide hi
      clear hbad hi hfull
      go_enter Try.func21, Try.ntmps21
      go_wp2_with fail
      refine (rIs_any _ R.many (.slice so R.sure.length scap) (.slice po R.put.length pcap) (k : Int)).mono ?_
      rintro e w1 ⟨rfl, o, rfl⟩
      have b0 := three_alloc (unhide K0) o
      have b1 := three_alloc (unhide K1) o
      obtain ⟨a00, a01, a02, z00, z01, z02⟩ := three_cells b0
      obtain ⟨d10, d11, d12, y10, y11, y12⟩ := three_cells b1
      have hF := (unhide HA).alloc o
      have HF := hide hF
      clear b0 b1 hF
      rw [unhide HI]
      go_wp2_with fail
      refine (rget_any _ (.slice po R.put.length pcap) R.put (k : Int) (unhide HF).put.base0 (by omega)).mono ?_
      rintro e w2 ⟨rfl, hw2⟩
      have hw2 := hw2.symm
      subst hw2
      rw [unhide HG]
      go_wp2_with fail
      refine bodyPost_ret (v := .tuple #[.agg #[.int .i64 R.many, .slice so R.sure.length scap, .slice po R.put.length pcap], .int .i64 8]) (by simp [results, Try.results21, go_sem, *]) rfl ⟨_, _, by rw [unhide HR], ?_, Frs.refl _ _, Frs.refl _ _, ?_⟩
      · rw [unhide HR]; exact ((h.alloc _).alloc _).alloc _
      · exact (((Below.refl _ _).alloc (Nat.le_refl _) _).alloc (by simp) _).alloc (by simp; omega) _
    · have HR : Hid (putR R k s = ({ R with put := withR R.put k (s ++ zs (256 - s.size)) }, 0)) := by show putR R k s = _; rw [putR, if_neg hbad, if_neg hfull, Int.toNat_natCast]
      have HI := hide hi
      have hcase : (gotR R.put (k : Int)).2 = true ∨ ((gotR R.put (k : Int)).2 = false ∧ (R.put.length : Int) < 80) := by
        cases hl : lookR R.put (k : Int) with
        | some t => exact .inl (by rw [gotR, hl])
        | none => exact .inr ⟨by rw [gotR, hl], by rw [hl] at hfull; simp at hfull; omega⟩
      have HCASE := hide hcase
      clear hbad hi hfull hcase
      go_enter Try.func21, Try.ntmps21
      go_wp2_with fail
      refine (rIs_any _ R.many (.slice so R.sure.length scap) (.slice po R.put.length pcap) (k : Int)).mono ?_
      rintro e w1 ⟨rfl, o, rfl⟩
      have b0 := three_alloc (unhide K0) o
      have b1 := three_alloc (unhide K1) o
      obtain ⟨a00, a01, a02, z00, z01, z02⟩ := three_cells b0
      have hF := (unhide HA).alloc o
      have bF := (unhide HBA).alloc (by rw [unhide KS]; omega) o
      have szF : (((w.alloc (.cells #[.int .i64 R.many, .slice so R.sure.length scap, .slice po R.put.length pcap] 30)).alloc (.cells #[.int .i64 0, .slice none 0 0, .slice none 0 0] 30)).alloc o).heap.size = w.heap.size + 3 := by simp
      have HF := hide hF
      have HBF := hide bF
      have HSZ := hide szF
      have HB0 := hide b0
      have HB1 := hide b1
      clear b0 b1 hF bF szF
      rw [unhide HI]
      generalize hWF : (((w.alloc (.cells #[.int .i64 R.many, .slice so R.sure.length scap, .slice po R.put.length pcap] 30)).alloc (.cells #[.int .i64 0, .slice none 0 0, .slice none 0 0] 30)).alloc o) = wF at *
      clear hWF
      go_wp2_with fail
      refine (rget_any wF (.slice po R.put.length pcap) R.put (k : Int) (unhide HF).put.base0 (by omega)).mono ?_
      rintro e w2 ⟨rfl, hw2⟩
      have hw2 := hw2.symm
      subst hw2
      have key : (gotR R.put (k : Int)).2 = true ∨ ((gotR R.put (k : Int)).2 = false ∧ (R.put.length : Int) < 80) := unhide HCASE
      clear HCASE
      generalize gotR R.put (k : Int) = gg at key ⊢
      obtain ⟨gs, gb⟩ := gg
      simp only at key ⊢
      rcases key with rfl | ⟨rfl, hnf⟩
      all_goals
        go_wp2_with fail
        refine (rCopy_any B wF R (.slice so R.sure.length scap) (.slice po R.put.length pcap) (unhide HF)).mono ?_
        rintro e w3 ⟨sv3, pv3, rfl, h3, bel3⟩
        obtain ⟨so3, scap3, hsv3⟩ := ownsRow_form h3.sure.base0
        obtain ⟨po3, pcap3, hpv3⟩ := ownsRow_form h3.put.base0
        subst hsv3 hpv3
        rw [unhide HSZ] at h3 bel3
        have s3 : w.heap.size + 3 ≤ w3.heap.size := by have := bel3.size; rw [unhide HSZ] at this; exact this
        have b03 := (bel3.block w.heap.size (by omega)).trans (unhide HB0)
        have b13 := (bel3.block (w.heap.size + 1) (by omega)).trans (unhide HB1)
        have hP3 : w3.ownsRow 0 84 2 (.slice po R.put.length pcap) R.put.length (flat R.put) := ownsRow_below (unhide HF).put.base0 bel3 (by rw [unhide HSZ]; omega)
        have c02 := fun x => (three_cells (three_alloc b03 x)).2.2.1
        have c02' := (three_cells b03).2.2.1
        have HP3 := hide hP3
        have H3 := hide h3
        have HBEL3 := hide bel3
        have HB13 := hide b13
        have HB03 := hide b03
        clear h3 bel3 b03 b13 hP3
        have hwr : IntKind.i64.wrap (256 - (s.size : Int)) = 256 - (s.size : Int) := by rw [IntKind.wrap_i64]; omega
        have hni : (256 : Int) - (s.size : Int) = ((256 - s.size : Nat) : Int) := by omega
        have hmk : ∀ W : World, (Instr.makeSlice 76 (.int .i64 (256 - (s.size : Int))) (.int .i64 (256 - (s.size : Int)))).run Try.prog W = .ok (.slice (some ⟨W.heap.size, 0, none⟩) (256 - s.size) (256 - s.size)) (W.alloc (.cells (madeCells #[.int .u8 0] (256 - s.size)) 5)) := fun W => by
          rw [hni]
          exact run_make_row' (P := Try.prog) 76 5 (.int .u8 0) 1 Try.underlying76 info_u8 rfl .i64 .i64 (256 - s.size) (by omega) (by omega) W
        have hcv := conv_n (w3.alloc (.cells #[.int .i64 R.many, .slice so3 R.sure.length scap3, .slice po3 R.put.length pcap3] 30)) (256 - s.size)
        rw [show (w3.alloc (.cells #[.int .i64 R.many, .slice so3 R.sure.length scap3, .slice po3 R.put.length pcap3] 30)).heap.size = w3.heap.size + 1 by simp] at hcv
        have hszz : ¬ 9223372036854775807 < s.size + (zs (256 - s.size)).size := by rw [zs_size]; omega
        obtain ⟨q0, q1, qs⟩ := heap_pair w3 (.cells #[.int .i64 R.many, .slice so3 R.sure.length scap3, .slice po3 R.put.length pcap3] 30) (.cells (madeCells #[.int .u8 0] (256 - s.size)) 5)
        have c03 := fun x y => (three_cells (three_alloc (three_alloc (unhide HB03) x) y)).2.2.1
        have HQ0 := hide q0
        have HQS := hide qs
        clear hni q0 q1 qs
        go_wp2_with fail
        go_region_with ((go_at_call 39; refine (with_any _ (.slice po R.put.length pcap) R.put k (s ++ zs (256 - s.size)) ?_ ?_).mono ?_; (· exact (((unhide HP3).alloc _).alloc _).drew); (· omega); rintro e w4 ⟨v4, rfl, ho4, bel4⟩; obtain ⟨ao4, cap4, hv4⟩ := ownsRow_form ho4.base0; subst hv4; have bO := (bel4.block w3.heap.size (by show _ < ((w3.alloc _).alloc _).heap.size; rw [unhide HQS]; omega)).trans (unhide HQ0); obtain ⟨r20, r21, r22, t20, t21, t22⟩ := three_cells bO; have bR := (bel4.block (w.heap.size + 1) (by show _ < ((w3.alloc _).alloc _).heap.size; rw [unhide HQS]; omega)).trans (three_alloc (three_alloc (unhide HB13) _) _); obtain ⟨r10, r11, r12, t10, t11, t12⟩ := three_cells bR; have HBR := hide bR; clear bR; have HO4 := hide ho4; have HBEL4 := hide bel4; have HBO := hide bO; clear ho4 bel4 bO))
        all_goals
          go_wp2
          have o3 := (((unhide H3).sure.alloc (.cells #[.int .i64 R.many, .slice so3 R.sure.length scap3, .slice po3 R.put.length pcap3] 30)).alloc (.cells (madeCells #[.int .u8 0] (256 - s.size)) 5)).drew
          have o4 := ownsRow_below o3 (unhide HBEL4) (Nat.le_refl _)
          have n3 : (Value.slice so3 R.sure.length scap3).ownBlock ≠ some w3.heap.size := ownsRow_ne o4 (unhide HBO) (by decide)
          have n31 : (Value.slice so3 R.sure.length scap3).ownBlock ≠ some (w.heap.size + 1) := ownsRow_ne o4 (unhide HBR) (by decide)
          have n4 : (Value.slice ao4 (withR R.put k (s ++ zs (256 - s.size))).length cap4).ownBlock ≠ some w3.heap.size := ownsRow_ne (unhide HO4) (unhide HBO) (by decide)
          have n41 : (Value.slice ao4 (withR R.put k (s ++ zs (256 - s.size))).length cap4).ownBlock ≠ some (w.heap.size + 1) := ownsRow_ne (unhide HO4) (unhide HBR) (by decide)
          have szW : ((w3.alloc (.cells #[.int .i64 R.many, .slice so3 R.sure.length scap3, .slice po3 R.put.length pcap3] 30)).alloc (.cells (madeCells #[.int .u8 0] (256 - s.size)) 5)).drew.heap.size = w3.heap.size + 2 := unhide HQS
          have bel : Below w.heap.size w w4 := by
            refine ((unhide HBF).trans ((unhide HBEL3).mono (by omega))).trans ?_
            exact (((Below.refl _ _).alloc (by omega) _).alloc (by simp; omega) _).drew.trans ((unhide HBEL4).mono (by rw [szW]; omega))
          have hwl : (withR R.put k (s ++ zs (256 - s.size))).length ≤ 1000000 := by
            have := filter_len R.put k
            simp only [withR, List.length_cons]
            omega
          refine bodyPost_ret (v := .tuple #[.agg #[.int .i64 R.many, .slice so3 R.sure.length scap3, .slice ao4 (withR R.put k (s ++ zs (256 - s.size))).length cap4], .int .i64 0]) (by simp [results, Try.results21, go_sem, *]) rfl ⟨_, _, by rw [unhide HR], ?_, ?_, ?_, ?_⟩
          · rw [unhide HR]
            refine ⟨?_, ?_, h.sl, hwl⟩
            · exact ownsRow_base (ownsRow_set (ownsRow_set (ownsRow_set (ownsRow_set o4 _ n3 _) _ n31 _) _ n31 _) _ n31 _) (by omega)
            · exact ownsRow_base (ownsRow_set (ownsRow_set (ownsRow_set (ownsRow_set (unhide HO4) _ n4 _) _ n41 _) _ n41 _) _ n41 _) (by rw [szW]; omega)
          · exact fun g hg => .inr (by have := ((unhide H3).sure.lt g hg).1; omega)
          · exact fun g hg => .inr (by have := ((unhide HO4).lt g hg).1; rw [szW] at this; omega)
          · exact (((bel.setCell (by simp; omega) _).setCell (by simp) _).setCell (by simp) _).setCell (by simp) _
end Go.Proofs.Ytcbindgpbeaebaa
