import Derived.Test.YtcbindgpbeaebaaWalkQ
namespace Go.Proofs.Ytcbindgpbeaebaa
open Go.RowKit Go.Deep
attribute [local go_sem ↓] Go.wp_at_zero Go.wp_at_succ

/-- gauzelaw.same -/
def SameB (d : Dk) (R : Rf) : Prop := ∀ i : Nat, i + 90 < d.safe.length → d.read (90 + i) = sureR R (i : Int)

/-- Its answer. -/
def SameAns (e : Ending) (d : Dk) (R : Rf) : Prop := ∃ b, e = .returned (.bool b) ∧ (b = true ↔ SameB d R)
theorem sameAns_t {e : Ending} {d : Dk} {R : Rf} (he : e = .returned (.bool true)) (h : SameB d R) : SameAns e d R := ⟨true, he, fun _ => h, fun _ => rfl⟩
theorem sameAns_f {e : Ending} {d : Dk} {R : Rf} (he : e = .returned (.bool false)) (h : ¬ SameB d R) : SameAns e d R := ⟨false, he, fun e => by (cases e), fun e => absurd e h⟩
theorem bytes_eq {x y : ByteArray} (h : x.toList = y.toList) : x = y := by
  rw [ByteArray.toList_eq, ByteArray.toList_eq] at h
  exact ByteArray.ext (Array.ext' h)

set_option maxRecDepth 100000 in
set_option maxHeartbeats 3200000 in
theorem same_any (B : Nat) (w : World) (bl bd bs : Nat) (pv lv : Value) (d : Dk) (R : Rf) (sv rv : Value) (hl : LAt w bl bd pv [] false) (h : DAt w bd bs lv d) (hr : RAt B w R sv rv) (hn : d.safe.length ≤ 4096) (hn90 : 90 ≤ d.safe.length) (hll : d.late.length ≤ 1000000) (hd : d.life ≠ 0) :
    Calls Try.prog 36 #[.pointer (some ⟨bl, 0, none⟩), .agg #[.int .i64 R.many, sv, rv], .int .i64 ((d.safe.length : Int) - 90)] w fun e w' => SameAns e d R ∧ Below w.heap.size w w' := by
  obtain ⟨so, scap, hsv⟩ := ownsRow_form hr.sure.base0
  obtain ⟨po, pcap, hpv⟩ := ownsRow_form hr.put.base0
  subst hsv hpv
  have hgl : ∀ k : Nat, k + 90 < d.safe.length → getL d [] false (k : Int) = (d.read (90 + k), 0) := fun k hk => by
    have h1 : hasB d.safe.length (k : Int) = true := by simp [hasB]; omega
    have h2 : ¬ (d.life = 0 ∨ false = true) := by simp [hd]
    have h3 : ¬ (0 ≤ idx [] (k : Int)) := by simp [idx]
    rw [getL, if_neg (by rw [h1]; simp), if_neg h2, if_neg h3, Int.toNat_natCast]
  have HGL := hide hgl
  have hl1 := hl.alloc (.cells #[.int .i64 R.many, .slice so R.sure.length scap, .slice po R.put.length pcap] 30)
  have hd1 := h.alloc (.cells #[.int .i64 R.many, .slice so R.sure.length scap, .slice po R.put.length pcap] 30)
  have hr1 := hr.alloc (.cells #[.int .i64 R.many, .slice so R.sure.length scap, .slice po R.put.length pcap] 30)
  have hb1 := heap_alloc_new w (.cells #[.int .i64 R.many, .slice so R.sure.length scap, .slice po R.put.length pcap] 30)
  have bel1 := (Below.refl w.heap.size w).alloc (Nat.le_refl _) (.cells #[.int .i64 R.many, .slice so R.sure.length scap, .slice po R.put.length pcap] 30)
  have sz1 : (w.alloc (.cells #[.int .i64 R.many, .slice so R.sure.length scap, .slice po R.put.length pcap] 30)).heap.size = w.heap.size + 1 := by simp
  have HL1 := hide hl1
  have HD1 := hide hd1
  have HR1 := hide hr1
  have HB1 := hide hb1
  have HBL := hide bel1
  have HSZ := hide sz1
  clear hgl hl1 hd1 hr1 hb1 bel1 sz1 hd
  go_enter Try.func36, Try.ntmps36
  go_wp2_with fail
  refine (lblocks_any _ bl bd bs lv d (unhide HL1).c0 (unhide HD1) hn).mono ?_
  rintro e w1 ⟨rfl, hw1⟩
  have hw1 := hw1.symm
  subst hw1
  have hbe : (((d.safe.length : Int) - 90) != ((d.safe.length : Int) - 90)) = false := by simp
  generalize (w.alloc (.cells #[.int .i64 R.many, .slice so R.sure.length scap, .slice po R.put.length pcap] 30)) = wA at HL1 HD1 HR1 HB1 HBL HSZ ⊢
  go_wp2_with fail
  go_loopw [8] (fun i wr => ∃ k : Nat, k + 90 ≤ d.safe.length ∧ i = .int .i64 k ∧ (∀ j : Nat, j < k → d.read (90 + j) = sureR R (j : Int)) ∧ Below wA.heap.size wA wr) (fun i _ => d.safe.length - (intOf i).toNat)
  case atStart => exact ⟨0, by omega, rfl, fun j hj => by omega, Below.refl _ _⟩
  case round =>
    obtain ⟨k, hk, rfl, hsame, bK⟩ := hrel
    have HSM := hide hsame
    have HBK := hide bK
    clear hsame bK
    by_cases hlt : k + 90 < d.safe.length
    · have hlt' : (k : Int) < (d.safe.length : Int) - 90 := by omega
      have hg := (unhide HGL) k hlt
      have HG := hide hg
      clear hg
      go_wp2_with fail
      refine (get_any wr bl bd bs pv lv [] false d (k : Int) ((unhide HL1).below (unhide HBK)) ((unhide HD1).below (unhide HBK)) hn hll (by simp)).mono ?_
      rintro e wG ⟨rfl, bG⟩
      rw [unhide HG]
      have bAG := (unhide HBK).trans (bG.mono (unhide HBK).size)
      have c0 := three_cells ((bAG.block w.heap.size (by rw [unhide HSZ]; omega)).trans (unhide HB1))
      obtain ⟨a0, a1, a2, _, _, _⟩ := c0
      have HAG := hide bAG
      clear bG bAG
      go_wp2_with fail
      refine (sure_any B wG R (.slice so R.sure.length scap) (.slice po R.put.length pcap) (k : Int) ((unhide HR1).below (unhide HAG))).mono ?_
      rintro e wS ⟨rfl, bS⟩
      have HAS := hide ((unhide HAG).trans (bS.mono (unhide HAG).size))
      clear bS
      generalize hx : d.read (90 + k) = x
      generalize hy : sureR R (k : Int) = y
      have HX := hide hx
      have HY := hide hy
      clear hx hy
      by_cases hxy : x = y
      · have hbq : (x.toList == y.toList) = true := by rw [hxy]; simp
        have HXY := hide hxy
        clear hxy
        go_wp2_with fail
        go_roundw
        case rel =>
          refine ⟨k + 1, by omega, by go_num, fun j hj => ?_, unhide HAS⟩
          by_cases hjk : j = k
          · rw [hjk, unhide HX, unhide HY]; exact unhide HXY
          · exact (unhide HSM) j (by omega)
        case measure => simp [intOf]; omega
      · have hbq : (x.toList == y.toList) = false := by
          rw [beq_eq_false_iff_ne]
          intro e
          exact hxy (bytes_eq e)
        have HXY := hide hxy
        clear hxy
        go_wp2_with fail
        go_ret
        have hF : ¬ SameB d R := fun e => absurd (((unhide HX).symm.trans (e k (by omega))).trans (unhide HY)) (unhide HXY)
        exact ⟨sameAns_f rfl hF, (unhide HBL).trans ((unhide HAS).mono (by rw [unhide HSZ]; omega))⟩
    · have hge : ¬ (k : Int) < (d.safe.length : Int) - 90 := by omega
      go_wp2_with fail
      go_ret
      have hT : SameB d R := fun i hi => (unhide HSM) i (by omega)
      exact ⟨sameAns_t rfl hT, (unhide HBL).trans ((unhide HBK).mono (by rw [unhide HSZ]; omega))⟩
end Go.Proofs.Ytcbindgpbeaebaa
