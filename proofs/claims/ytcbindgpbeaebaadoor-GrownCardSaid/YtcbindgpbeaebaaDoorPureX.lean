import Derived.Test.YtcbindgpbeaebaaDoorKeepA
namespace Go.Proofs.YtcbindgpbeaebaaDoor
open Go.RowKit Go.Deep

def pD : ByteArray := ⟨#[100]⟩
def pMore : ByteArray := ⟨#[109, 111, 114, 101]⟩
def factsAt (i : Nat) : Bool := okPath (fullP i) && ((parentB (fullP i)).data.toList == [100]) && belowB (fullP i) pD
set_option maxRecDepth 100000 in
theorem facts_all : (List.range 59).all factsAt = true := by decide +kernel
theorem okD : okPath pD = true ∧ okPath pMore = true ∧ (parentB pD).size = 0 ∧ (parentB pMore).size = 0 := by decide +kernel
theorem fullP_facts {i : Nat} (hi : i < 59) : okPath (fullP i) = true ∧ parentB (fullP i) = pD ∧ belowB (fullP i) pD = true := by
  have h := List.all_eq_true.1 facts_all i (List.mem_range.2 hi)
  simp only [factsAt, Bool.and_eq_true, beq_iff_eq] at h
  exact ⟨h.1.1, bytes_ext h.1.2, h.2⟩
theorem fullP_inj {i j : Nat} (hi : i < 59) (hj : j < 59) (h : fullP i = fullP j) : i = j := by
  have h1 := congrArg (fun b : ByteArray => b.data.toList.map UInt8.toNat) h
  simp only [fullP, List.map_cons, List.map_nil, List.cons.injEq] at h1
  obtain ⟨_, _, h2, h3, _⟩ := h1
  rw [u8_nat _ (by omega), u8_nat _ (by omega)] at h2 h3
  omega
theorem fullP_ne {i : Nat} : fullP i ≠ pD ∧ fullP i ≠ pMore := by
  refine ⟨fun h => ?_, fun h => ?_⟩
  · have := congrArg ByteArray.size h
    exact absurd this (by show ¬ (4 = 1); decide)
  · have := congrArg (fun b : ByteArray => b.data.toList.head?) h
    exact absurd this (by show ¬ (some (100 : UInt8) = some 109); decide)
theorem pMore_ne : pMore ≠ pD := fun h => by
  have := congrArg ByteArray.size h
  exact absurd this (by show ¬ (4 = 1); decide)
theorem full_ok {i : Nat} (hi : i < 59) (c : Nat) : okNode (fullN i c) = true := by
  have h1 := (fullP_facts hi).1
  have hs : (⟨(fullD i c).toArray⟩ : ByteArray).size = 400 := by
    show (fullD i c).toArray.size = 400
    simp [fullD]
  have h2 : ((c % 512 : Nat) : Int) ≤ 511 := by omega
  have h3 : ((c % 256 : Nat) : Int) ≤ 255 := by omega
  have h4 : (0 : Int) ≤ ((c % 512 : Nat) : Int) := by omega
  have h5 : (0 : Int) ≤ ((c % 256 : Nat) : Int) := by omega
  simp only [okNode, fullN, h1, hs, h2, h3, h4, h5]
  decide
def dirN (m : Int) : Nd := ⟨pD, 2, m, 0, ⟨#[]⟩⟩
def moreN : Nd := ⟨pMore, 1, 0, 0, ⟨#[]⟩⟩
def goneN : Nd := ⟨pD, 0, 0, 0, ⟨#[]⟩⟩
theorem dir_ok : okDeeds [⟨false, dirN 1⟩] = true := by decide +kernel
theorem more_ok : okDeeds [⟨false, moreN⟩] = true := by decide +kernel
theorem gone_ok : okDeeds [⟨true, goneN⟩, ⟨false, dirN 0⟩] = true := by decide +kernel
theorem fullDeed_ok {i : Nat} (hi : i < 59) (c : Nat) : okDeeds [⟨false, fullN i c⟩] = true := by
  simp only [okDeeds, okDeed, List.all_cons, List.all_nil, full_ok hi c]
  rw [show (fullN i c).path = fullP i from rfl, (fullP_facts hi).1]
  rfl

/-! ### One deed, two deeds -/
theorem Chain.inv {M : List Pl} {ps : List (Nat × ByteArray)} {l : List Dd} {M' : List Pl} {ps' : List (Nat × ByteArray)} (h : Chain M ps l M' ps') : (l = [] ∧ M' = M ∧ ps' = ps) ∨ ∃ l0 x M1 ps1, l = l0 ++ [x] ∧ Chain M ps l0 M1 ps1 ∧ D1 M1 ps1 x 0 M' ps' := by
  cases h with
  | nil => exact .inl ⟨rfl, rfl, rfl⟩
  | snoc h k => exact .inr ⟨_, _, _, _, rfl, h, k⟩
theorem chain_nil {M : List Pl} {ps : List (Nat × ByteArray)} {M' : List Pl} {ps' : List (Nat × ByteArray)} (h : Chain M ps [] M' ps') : M' = M ∧ ps' = ps := by
  rcases h.inv with ⟨_, a, b⟩ | ⟨l0, x, _, _, e, _⟩
  · exact ⟨a, b⟩
  · simp at e
theorem chain_one {M : List Pl} {ps : List (Nat × ByteArray)} {x : Dd} {M' : List Pl} {ps' : List (Nat × ByteArray)} (h : Chain M ps [x] M' ps') : D1 M ps x 0 M' ps' := by
  rcases h.inv with ⟨e, _⟩ | ⟨l0, y, M1, ps1, e, h1, h2⟩
  · cases e
  · obtain ⟨e1, e2⟩ := List.append_inj' (s₁ := []) e rfl
    subst e1
    obtain ⟨rfl, rfl⟩ := chain_nil h1
    rw [show x = y from List.cons.inj e2 |>.1]
    exact h2
theorem chain_two {M : List Pl} {ps : List (Nat × ByteArray)} {x y : Dd} {M' : List Pl} {ps' : List (Nat × ByteArray)} (h : Chain M ps [x, y] M' ps') : ∃ M1 ps1, D1 M ps x 0 M1 ps1 ∧ D1 M1 ps1 y 0 M' ps' := by
  rcases h.inv with ⟨e, _⟩ | ⟨l0, z, M1, ps1, e, h1, h2⟩
  · cases e
  · obtain ⟨e1, e2⟩ := List.append_inj' (s₁ := [x]) e rfl
    subst e1
    rw [← (List.cons.inj e2).1] at h2
    exact ⟨M1, ps1, chain_one h1, h2⟩
theorem do_one {M : List Pl} {x : Dd} {d : Dk} {c : Int} {br' : Bool} {d' : Dk} (hd : Hd d M) (hok : okDeeds [x] = true) (h : DoEnd M [x] d c br' d') :
    (c = 0 ∧ br' = false ∧ ∃ M1 ps1, D1 M [] x 0 M1 ps1 ∧ Hd d' M1) ∨ (c ≠ 0 ∧ br' = false ∧ d' = d ∧ ∃ M2 ps2, D1 M [] x c M2 ps2) := by
  obtain ⟨h12, hall⟩ := okDeeds_all hok
  rcases h with ⟨e, _⟩ | ⟨_, e1, e2, e3, k, y, M1, ps1, M2, ps2, k1, k2, k3⟩ | ⟨_, M1, ps1, k1, e1, e2, e3⟩
  · rw [hok] at e; cases e
  · match k, k2 with
    | 0, k2 =>
      obtain ⟨rfl, rfl⟩ := chain_nil k1
      rw [show y = x from (Option.some.inj k2).symm] at k3
      exact .inr ⟨e3, e1, e2, M2, ps2, k3⟩
    | k + 1, k2 => simp at k2
  · obtain ⟨a, b, hh⟩ := hd.commit k1 h12 hall fun x hx => okDeed_fit (hall x hx)
    rw [e3]
    exact .inl ⟨by rw [e1, a], by rw [e2, b], M1, ps1, chain_one k1, hh⟩
theorem do_two {M : List Pl} {x y : Dd} {d : Dk} {c : Int} {br' : Bool} {d' : Dk} (hd : Hd d M) (hok : okDeeds [x, y] = true) (h : DoEnd M [x, y] d c br' d') :
    (c = 0 ∧ br' = false ∧ ∃ M1 ps1 M2 ps2, D1 M [] x 0 M1 ps1 ∧ D1 M1 ps1 y 0 M2 ps2 ∧ Hd d' M2) ∨
    (c ≠ 0 ∧ br' = false ∧ d' = d ∧ ((∃ M2 ps2, D1 M [] x c M2 ps2) ∨ ∃ M1 ps1 M2 ps2, D1 M [] x 0 M1 ps1 ∧ D1 M1 ps1 y c M2 ps2)) := by
  obtain ⟨h12, hall⟩ := okDeeds_all hok
  rcases h with ⟨e, _⟩ | ⟨_, e1, e2, e3, k, z, M1, ps1, M2, ps2, k1, k2, k3⟩ | ⟨_, M1, ps1, k1, e1, e2, e3⟩
  · rw [hok] at e; cases e
  · match k, k1, k2 with
    | 0, k1, k2 =>
      obtain ⟨rfl, rfl⟩ := chain_nil k1
      rw [show z = x from (Option.some.inj k2).symm] at k3
      exact .inr ⟨e3, e1, e2, .inl ⟨M2, ps2, k3⟩⟩
    | 1, k1, k2 =>
      rw [show z = y from (Option.some.inj k2).symm] at k3
      exact .inr ⟨e3, e1, e2, .inr ⟨M1, ps1, M2, ps2, chain_one k1, k3⟩⟩
    | k + 2, _, k2 => simp at k2
  · obtain ⟨a, b, hh⟩ := hd.commit k1 h12 hall fun x hx => okDeed_fit (hall x hx)
    obtain ⟨N, qs, q1, q2⟩ := chain_two k1
    rw [e3]
    exact .inl ⟨by rw [e1, a], by rw [e2, b], N, qs, M1, ps1, q1, q2, hh⟩

/-! ### What the law's base has -/
structure Gr (cf : Nat → Nat) (j : Nat) (M : List Pl) : Prop where
  dir : ∃ p ∈ M, p.node.path = pD ∧ p.node.kind = 2
  mem : ∀ p ∈ M, p.node.path = pD ∨ ∃ i, i < j ∧ p.node = fullN i (cf i)
  has : ∀ i, i < j → ∃ p ∈ M, p.node = fullN i (cf i)
  len : M.length = j + 1
theorem Gr.first {M : List Pl} {x : Pl} (hM : M = [x]) (hp : x.node.path = pD) (hk : x.node.kind = 2) (cf : Nat → Nat) : Gr cf 0 M := by
  subst hM
  exact ⟨⟨x, by simp, hp, hk⟩, fun p h => by rw [List.mem_singleton.1 h]; exact .inl hp, fun i hi => by omega, rfl⟩
theorem Gr.none {cf : Nat → Nat} {j : Nat} {M : List Pl} (h : Gr cf j M) (hj : j < 59) : getM M (fullP j) = none :=
  getM_none_of fun p hp e => by
    rcases h.mem p hp with k | ⟨i, hi, k⟩
    · exact fullP_ne.1 (e.symm.trans k)
    · rw [k] at e
      have := fullP_inj (i := i) (j := j) (by omega) hj e
      omega
theorem Gr.put_err {cf : Nat → Nat} {j : Nat} {M : List Pl} (h : Gr cf j M) (ho : Ord M) (hj : j < 59) (c : Nat) : putErr M (fullN j c) = 0 := by
  obtain ⟨p, hp, e1, e2⟩ := h.dir
  have hg : getM M pD = some p := by rw [← e1]; exact getM_mem ho hp
  have hc : chk M (fullN j c).path = 0 := by
    show chk M (fullP j) = 0
    unfold chk
    rw [(fullP_facts hj).2.1, if_neg (by decide), hg]
    exact if_pos e2
  unfold putErr
  rw [if_neg (by rw [hc]; simp), show (fullN j c).path = fullP j from rfl, h.none hj]
  dsimp only
  rw [if_neg (by rw [h.len]; omega)]
theorem Gr.put {cf : Nat → Nat} {j : Nat} {M : List Pl} (h : Gr cf j M) (ho : Ord M) (hj : j < 59) (slot : Nat) : Gr cf (j + 1) (insM M ⟨slot, fullN j (cf j)⟩) := by
  have hm := mem_insM M ⟨slot, fullN j (cf j)⟩ ho
  have keep : ∀ p ∈ M, p ∈ insM M ⟨slot, fullN j (cf j)⟩ := fun p hp => (hm p).2 (.inr ⟨hp, fun e => getM_none (h.none hj) p hp (cmpB_zero e)⟩)
  refine ⟨?_, fun p hp => ?_, fun i hi => ?_, ?_⟩
  · obtain ⟨p, hp, e⟩ := h.dir
    exact ⟨p, keep p hp, e⟩
  · rcases (hm p).1 hp with rfl | ⟨hp, _⟩
    · exact .inr ⟨j, by omega, rfl⟩
    · rcases h.mem p hp with e | ⟨i, hi, e⟩
      · exact .inl e
      · exact .inr ⟨i, by omega, e⟩
  · by_cases e : i = j
    · subst e
      exact ⟨_, (hm _).2 (.inl rfl), rfl⟩
    · obtain ⟨p, hp, e⟩ := h.has i (by omega)
      exact ⟨p, keep p hp, e⟩
  · rw [insM_len_none (h.none hj), h.len]
/-- A node that is full is put. -/
theorem gr_put {cf : Nat → Nat} {j : Nat} {M : List Pl} {d : Dk} {c : Int} {br' : Bool} {d' : Dk} (hd : Hd d M) (h : Gr cf j M) (hj : j < 59) (he : DoEnd M [⟨false, fullN j (cf j)⟩] d c br' d') : c = 0 ∧ br' = false ∧ ∃ M', Hd d' M' ∧ Gr cf (j + 1) M' := by
  have hp := h.put_err hd.mo.ord hj (cf j)
  rcases do_one hd (fullDeed_ok hj _) he with ⟨a, b, M1, ps1, k, hh⟩ | ⟨a, _, _, M2, ps2, k⟩
  · refine ⟨a, b, M1, hh, ?_⟩
    rcases k with ⟨k, _⟩ | ⟨_, _, ⟨k, _⟩ | ⟨_, slot, _, rfl, _⟩⟩
    · cases k
    · exact absurd hp k
    · exact h.put hd.mo.ord hj slot
  · exfalso
    rcases k with ⟨k, _⟩ | ⟨_, k, _⟩
    · cases k
    · exact a (k.trans hp)
/-- One more is refused. -/
theorem gr_more {cf : Nat → Nat} {M : List Pl} {d : Dk} {c : Int} {br' : Bool} {d' : Dk} (hd : Hd d M) (h : Gr cf 59 M) (he : DoEnd M [⟨false, moreN⟩] d c br' d') : c = 8 ∧ br' = false ∧ d' = d := by
  have hg : getM M pMore = none := getM_none_of fun p hp e => by
    rcases h.mem p hp with k | ⟨i, hi, k⟩
    · exact pMore_ne (e.symm.trans k)
    · rw [k] at e
      exact fullP_ne.2 e
  have hp : putErr M moreN = 8 := by
    have hc : chk M pMore = 0 := by unfold chk; rw [if_pos okD.2.2.2]
    unfold putErr
    rw [show moreN.path = pMore from rfl, if_neg (by rw [hc]; simp), hg]
    dsimp only
    rw [if_pos (by rw [h.len]; omega)]
  rcases do_one hd more_ok he with ⟨a, b, M1, ps1, k, hh⟩ | ⟨a, b, e, M2, ps2, k⟩
  · exfalso
    rcases k with ⟨k, _⟩ | ⟨_, k, _⟩
    · cases k
    · rw [hp] at k; cases k
  · rcases k with ⟨k, _⟩ | ⟨_, k, _⟩
    · cases k
    · exact ⟨k.trans hp, b, e⟩
theorem dir_err (m : Int) : putErr [] (dirN m) = 0 := by
  have hc : chk [] pD = 0 := by unfold chk; rw [if_pos okD.2.2.1]
  unfold putErr
  rw [show (dirN m).path = pD from rfl, if_neg (by rw [hc]; simp)]
  rfl
/-- The directory is made. -/
theorem gr_dir {d : Dk} {c : Int} {br' : Bool} {d' : Dk} (hd : Hd d []) (he : DoEnd [] [⟨false, dirN 1⟩] d c br' d') (cf : Nat → Nat) : c = 0 ∧ br' = false ∧ ∃ M', Hd d' M' ∧ Gr cf 0 M' := by
  have hp := dir_err 1
  rcases do_one hd dir_ok he with ⟨a, b, M1, ps1, k, hh⟩ | ⟨a, _, _, M2, ps2, k⟩
  · refine ⟨a, b, M1, hh, ?_⟩
    rcases k with ⟨k, _⟩ | ⟨_, _, ⟨k, _⟩ | ⟨_, slot, _, rfl, _⟩⟩
    · cases k
    · exact absurd hp k
    · exact Gr.first (x := ⟨slot, dirN 1⟩) rfl rfl rfl cf
  · exfalso
    rcases k with ⟨k, _⟩ | ⟨_, k, _⟩
    · cases k
    · exact a (k.trans hp)
/-- All is taken away, and the directory made anew. -/
theorem gr_gone {cf : Nat → Nat} {j : Nat} {M : List Pl} {d : Dk} {c : Int} {br' : Bool} {d' : Dk} (hd : Hd d M) (h : Gr cf j M) (hj : j ≤ 59) (he : DoEnd M [⟨true, goneN⟩, ⟨false, dirN 0⟩] d c br' d') : c = 0 ∧ br' = false ∧ ∃ M', Hd d' M' ∧ ∀ cf', Gr cf' 0 M' := by
  have hp := dir_err 0
  obtain ⟨p, hp1, e1, e2⟩ := h.dir
  have hg : getM M pD = some p := by rw [← e1]; exact getM_mem hd.mo.ord hp1
  have hnil : ∀ {ps1 M1}, D1 M [] ⟨true, goneN⟩ 0 M1 ps1 → M1 = [] := fun {ps1 M1} k => by
    rcases k with ⟨_, ⟨k, _⟩ | ⟨_, _, rfl, _⟩⟩ | ⟨k, _⟩
    · exact absurd (show getM M pD = none from k) (by rw [hg]; simp)
    · rw [take_filter _ hd.mo.ord [] 0 (PsB.nil 0) hd.mo.slot]
      refine List.filter_eq_nil_iff.2 fun x hx => ?_
      have hh : hit goneN.path x = true := by
        show ((x.node.path.toList == pD.toList) || belowB x.node.path pD) = true
        rcases h.mem x hx with e | ⟨i, hi, e⟩
        · rw [e]; simp
        · rw [e]
          show ((fullP i).toList == pD.toList || belowB (fullP i) pD) = true
          rw [(fullP_facts (show i < 59 by omega)).2.2]; simp
      rw [hh]
      simp
    · cases k
  rcases do_two hd gone_ok he with ⟨a, b, M1, ps1, M2, ps2, k1, k2, hh⟩ | ⟨a, _, _, ⟨M2, ps2, k⟩ | ⟨M1, ps1, M2, ps2, k1, k2⟩⟩
  · refine ⟨a, b, M2, hh, fun cf' => ?_⟩
    rw [hnil k1] at k2
    rcases k2 with ⟨k, _⟩ | ⟨_, _, ⟨k, _⟩ | ⟨_, slot, _, rfl, _⟩⟩
    · cases k
    · exact absurd hp k
    · exact Gr.first (x := ⟨slot, dirN 0⟩) rfl rfl rfl cf'
  · exfalso
    rcases k with ⟨_, ⟨k, _⟩ | ⟨_, k, _⟩⟩ | ⟨k, _⟩
    · exact absurd (show getM M pD = none from k) (by rw [hg]; simp)
    · exact a k
    · cases k
  · exfalso
    rw [hnil k1] at k2
    rcases k2 with ⟨k, _⟩ | ⟨_, k, _⟩
    · cases k
    · exact a (k.trans hp)
/-- What Read tells of a node of the law. -/
theorem gr_read {cf : Nat → Nat} {j : Nat} {M : List Pl} (ho : Ord M) (h : Gr cf j M) {i : Nat} (hi : i < j) (hj : j ≤ 59) : rdRes (fullP i) M = .tuple #[ndV (fullN i (cf i)), .int .i64 0] := by
  obtain ⟨p, hp, e⟩ := h.has i hi
  have hg := getM_mem ho hp
  rw [e] at hg
  unfold rdRes
  rw [if_pos (fullP_facts (by omega)).1, show fullP i = (fullN i (cf i)).path from rfl, hg]
  show Value.tuple #[ndV p.node, .int .i64 0] = _
  rw [e]
/-- A new disk has no nodes. -/
theorem new_hd : Hd (newDk 300) [] := by
  have hl : (newDk 300).safe.length = 300 := List.length_replicate
  refine ⟨newDk_ok 300 (by omega), by omega, rfl, newDk_well 300, rfl, ?_, fun i hi => ?_, ⟨List.Pairwise.nil, by simp, by simp⟩, ⟨by simp, fun s hs n => ?_⟩⟩
  · rw [rd_new, clr_zero]
  · unfold vw
    rw [rd_new, ← clr_zero]
    exact pad_size (by decide)
  · have e : vw (newDk 300) (2 * s) = pad ⟨#[]⟩ := by
      unfold vw
      rw [rd_new]
      apply bytes_ext
      rw [pad_list, zs_list]
      rfl
    rw [e, dec_zero]
    simp
end Go.Proofs.YtcbindgpbeaebaaDoor
