import Derived.Test.YtcbindgpbeaebaaPureE
import Derived.Test.YtcbindgpbeaebaaPureI
import Derived.Test.YtcbindgpbeaebaaSmallA
namespace Go.Proofs.Ytcbindgpbeaebaa
open Go.RowKit Go.Deep
attribute [local go_sem ↓] Go.wp_at_zero Go.wp_at_succ

def xs1 : ByteArray := ⟨#[120]⟩
theorem alive_commit : (commitL (newDk 100) [(9, pad xs1)] false).1 = 0 ∧ (commitL (newDk 100) [(9, pad xs1)] false).2.2 = false ∧ (commitL (newDk 100) [(9, pad xs1)] false).2.1.Ok ∧ (commitL (newDk 100) [(9, pad xs1)] false).2.1.safe.length = 100 ∧
    Holds (newDk 100).safe (some [(9, pad xs1)]) (commitL (newDk 100) [(9, pad xs1)] false).2.1 ∧ rd (commitL (newDk 100) [(9, pad xs1)] false).2.1.safe 99 = pad xs1 := by
  have hN : (newDk 100).safe.length = 100 := List.length_replicate
  have hps : ∀ p ∈ [(9, pad xs1)], 90 + p.1 < (newDk 100).safe.length := fun p hp => by
    simp only [List.mem_singleton] at hp
    subst hp
    rw [hN]; simp only; omega
  have hsz : ∀ p ∈ [(9, pad xs1)], p.2.size = 256 := fun p hp => by
    simp only [List.mem_singleton] at hp
    subst hp
    exact pad_size (by decide)
  obtain ⟨a1, a2⟩ := Dk.through_well (newDk_well 100) (room 0 [(9, pad xs1)]) [(9, pad xs1)]
  obtain ⟨b1, b2⟩ := Dk.through_well a2 (home [(9, pad xs1)]) []
  have e : commitL (newDk 100) [(9, pad xs1)] false = (0, (((newDk 100).through (room 0 [(9, pad xs1)]) [(9, pad xs1)]).2.through (home [(9, pad xs1)]) []).2, false) := by
    simp only [commitL, a1, b1, if_true]
    simp
  obtain ⟨c1, c2, c3, c4, c5, c6⟩ := commit_crash (newDk 100) [(9, pad xs1)] (newDk_ok 100 (by omega)) (by show (0 : Int) + 1 ≤ _; omega) rfl (by omega) (by simp) (by simp) hps hsz (by rw [rd_new, clr_zero])
  rcases c6 with ⟨g, _⟩ | ⟨g1, g2, g3, g4, g5⟩
  · rw [e] at g; cases g
  · refine ⟨g1, g2, c1, by rw [c3, hN], ⟨g3, .inr ⟨_, rfl, g5⟩⟩, ?_⟩
    have := g5.2 9 (by omega)
    simpa [lastOf] using this
theorem pad2 : ((pad xs1).extract 0 2).toList = [120, 0] := by
  rw [ByteArray.toList_eq, ByteArray.data_extract, Array.toList_extract, pad_list]
  rfl
theorem put_alive : putL 100 [] 9 xs1 = (0, [(9, pad xs1)]) := by
  unfold putL
  rw [if_neg (by simp [hasB, xs1, ByteArray.size]), if_neg (by simp [idx]), if_neg (by simp)]
  rfl

set_option maxRecDepth 100000 in
set_option maxHeartbeats 8000000 in
theorem alive_any (w : World) : Calls Try.prog 5 #[] w fun e w' => e = .returned (.bool true) ∧ Below w.heap.size w w' := by
  go_enter Try.func5, Try.ntmps5
  go_wp2_with fail
  refine (new_any _ 100 (by omega) (by omega)).mono ?_
  rintro e w1 ⟨bd, bs, rfl, h1, b1, lbd, lbs⟩
  have sz1 := b1.size
  obtain ⟨no1, no2⟩ := new_opens 100
  have NO1 := hide no1
  have NO2 := hide no2
  clear no1 no2
  have hlen0 : (newDk 100).safe.length = 100 := List.length_replicate
  have HL0 := hide hlen0
  clear hlen0
  go_wp2_with fail
  refine (open_any w1 w.heap.size bd bs (.slice none 0 0) (newDk 100) [] h1 sz1 lbd lbs (by simp [Value.ownBlock]) (newDk_ok 100 (by omega)) (by rw [unhide HL0]; omega) (by show (0 : Nat) ≤ _; omega) (fun _ => unhide NO2) (by simp) (by simp) (by simp [inRoom])).mono ?_
  rintro e w2 ⟨lv2, _, b2, ho, _⟩
  obtain ⟨he, s2⟩ := ho (by rw [unhide NO1])
  subst he
  rw [unhide NO1] at s2
  have b02 : Below w.heap.size w w2 := b1.trans b2
  have S2 := hide s2
  have B02 := hide b02
  clear s2 b2 b1 b02 ho h1 NO1 NO2
  go_wp2_with fail
  refine (open_nil w2).mono ?_
  rintro e w3 ⟨rfl, hw3⟩
  have hw3 := hw3.symm
  subst hw3
  go_wp2_with fail
  refine (put_any w2 w1.heap.size bd bs (.slice none 0 0) lv2 [] false (newDk 100) 9 xs1 (unhide S2).log (unhide S2).disk (by rw [unhide HL0]; omega) (by simp)).mono ?_
  rintro e w4 ⟨pv4, rfl, l4, st4⟩
  rw [unhide HL0, put_alive] at l4 ⊢
  obtain ⟨s4, b4⟩ := (unhide S2).ofLog l4 st4
  have b04 := (unhide B02).trans b4
  have HS4 := hide s4
  have HB4 := hide b04
  clear s4 b4 l4 st4 b04 S2 B02
  go_wp2_with fail
  refine (commit_any w4 w.heap.size w1.heap.size bd bs pv4 lv2 [(9, pad xs1)] false (newDk 100) (unhide HS4) (newDk_ok 100 (by omega)) (by rw [unhide HL0]; omega) (by show (0 : Nat) ≤ _; omega) (by simp) (fun p hp => by simp only [List.mem_singleton] at hp; subst hp; rw [unhide HL0]; simp only; omega) (fun p hp => by simp only [List.mem_singleton] at hp; subst hp; exact Nat.le_of_eq (pad_size (by decide)))).mono ?_
  rintro e w5 ⟨lv5, rfl, s5, b5, _⟩
  obtain ⟨fc1, fc2, fc3, fc4, fc5, fc6⟩ := alive_commit
  rw [fc1]
  rw [fc2] at s5
  generalize (commitL (newDk 100) [(9, pad xs1)] false).2.1 = dA at s5 fc3 fc4 fc5 fc6
  have b05 := (unhide HB4).trans b5
  have HS5 := hide s5
  have HB5 := hide b05
  have HF5 := hide fc5
  have HF6 := hide fc6
  have HF3 := hide fc3
  have HF4 := hide fc4
  clear s5 b5 b05 fc1 fc2 fc3 fc4 fc5 fc6 HS4 HB4
  go_wp2_with fail
  refine (copy_any w5 bd bs lv5 dA (unhide HS5).disk (by rw [unhide HF4]; omega) (by rw [unhide HF4]; omega) (by rw [(unhide HF5).1]; simp)).mono ?_
  rintro e w6 ⟨bs6, lv6, c6, rfl, d6, b6, lb6, lv6b⟩
  have b06 := (unhide HB5).trans (b6.mono (unhide HB5).size)
  have HD6 := hide d6
  have HB6 := hide b06
  have sz6 := b6.size
  have sz5 := (unhide HB5).size
  clear d6 b6 b06 HS5 HB5
  obtain ⟨hc1, hc2, hc3, hc4, hc5⟩ := holds_crash dA _ _ (unhide HF3) c6 (unhide HF5)
  have HC1 := hide hc1
  have HC2 := hide hc2
  have HC3 := hide hc3
  have HC4 := hide hc4
  have HC5 := hide hc5
  clear hc1 hc2 hc3 hc4 hc5
  go_wp2_with fail
  refine (crash_any w6 w5.heap.size bs6 lv6 (.slice none 0 0) { dA with cap := c6 } [] (unhide HD6) ⟨(unhide HF3).w0, (unhide HF3).w1, (unhide HF3).l0, (unhide HF3).l1, (unhide HF3).f0, (unhide HF3).f1, (unhide HF3).n, (unhide HF3).lt⟩ (by show dA.late.length ≤ _; rw [(unhide HF5).1]; simp) ⟨⟨none, 0, rfl, fun i c hi => by simp at hi⟩, fun c hc => by simp at hc⟩ (fun b o n c e hn => by cases e)).mono ?_
  rintro e w7 ⟨lv7, rfl, d7, st7⟩
  have b07 := (unhide HB6).trans (st7.below sz5 (by omega) (fun g hg => by have := lv6b g hg; omega) (by omega))
  have fr7 : ∀ g, lv7.ownBlock = some g → w.heap.size ≤ g := fun g hg => by
    rcases st7.fresh g hg with e | e
    · have := lv6b g e; omega
    · omega
  have sz7 := st7.size
  have hr99 : rd (({ dA with cap := c6 } : Dk).crash []).safe 99 = pad xs1 := by rw [unhide HC3]; exact unhide HF6
  have hl100 : (({ dA with cap := c6 } : Dk).crash []).safe.length = 100 := by rw [unhide HC3]; exact unhide HF4
  have hlife : (({ dA with cap := c6 } : Dk).crash []).life = -1 := rfl
  generalize ({ dA with cap := c6 } : Dk).crash [] = dC at d7 HC1 HC2 HC4 HC5 hr99 hl100 hlife
  have HD7 := hide d7
  have HB7 := hide b07
  have HFR := hide fr7
  have HR99 := hide hr99
  have HL1 := hide hl100
  have HLF := hide hlife
  clear d7 st7 b07 fr7 hr99 hl100 hlife HD6 HB6 HC3
  go_wp2_with fail
  refine (open_any w7 w.heap.size w5.heap.size bs6 lv7 dC [] (unhide HD7) (by omega) sz5 (by omega) (unhide HFR) (unhide HC1) (by rw [unhide HL1]; omega) (by rw [unhide HC2]; simp) (unhide HC5) (by simp) (by simp) (by simp [inRoom])).mono ?_
  rintro e w8 ⟨lv8, _, b8, ho, _⟩
  obtain ⟨he, s8⟩ := ho (by rw [unhide HC4])
  subst he
  rw [unhide HC4] at s8
  have b08 := (unhide HB7).trans b8
  have HS8 := hide s8
  have HB8 := hide b08
  clear s8 b8 b08 ho HD7 HB7
  go_wp2_with fail
  have hg : getL dC [] false 9 = (pad xs1, 0) := by
    unfold getL
    rw [unhide HL1, if_neg (by simp [hasB]), if_neg (by rw [unhide HLF]; simp), if_neg (by simp [idx])]
    show (dC.read 99, (0 : Int)) = _
    rw [read_rd (unhide HC2), unhide HR99]
  have HG := hide hg
  clear hg
  refine (get_any w8 w7.heap.size w5.heap.size bs6 (.slice none 0 0) lv8 [] false dC 9 (unhide HS8).log (unhide HS8).disk (by rw [unhide HL1]; omega) (by rw [unhide HC2]; simp) (by simp)).mono ?_
  rintro e w9 ⟨rfl, b9⟩
  rw [unhide HG]
  have hvs := pad_size (s := xs1) (by decide)
  have hv3 := pad2
  generalize pad xs1 = v at hvs hv3 ⊢
  have HB9 := hide ((unhide HB8).trans (b9.mono (unhide HB8).size))
  clear b9 HB8
  go_wp2_with fail
  go_ret
  exact ⟨rfl, unhide HB9⟩
end Go.Proofs.Ytcbindgpbeaebaa
